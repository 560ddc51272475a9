import PyProof.Rows.All
import Wide.All
import OpenK.AllK
import Wide.FinOn
import HandS.ForMost
import HandS.SetBool
import HandS.Codes
import HandS.IsInst
import HandS.Zip
import HandS.Walk
import HandS.SortRule
import HandS.Deep
import KE.LtData
import HandS.TupAny
import PyProof.Rows.StrMeet
import PyProof.Rows.SortKeyStr
import HandS.DictComp
import HandS.DictTup
import HandS.Conv
import HandS.Style
import KE.KDictSum
import KE.KDictDisplayH
import HandS.SortKw
import KE.DatumOrd
import PyProof.Rows.SortShellAny
import PyProof.EqAt
import PyProof.EqKinds
import PyProof.DictFindH
import KE.KEqDict
import KE.KDictCopyH
import HandS.TupLen
import HandS.More
import HandS.Finally
import KE.GoesMore
import KE.GoesEnum
import HandS.TupMul
import HandS.TupLe
import HandS.Steps
import HandS.WordsDict
import HandS.Flow
import PySem.Challenge.RW_untoldgames_k07_whole_plans_win
set_option Elab.async false
set_option linter.all false
set_option maxRecDepth 100000
set_option maxHeartbeats 4000000
/-! Sets of texts: what stands there, a text more, a comprehension that makes one, sorted of it. -/
namespace Nm
open PySem PySem.Spec PyProof.Rows L2
section
variable {P : Program} {w : World} {A : Around} {E : Value → Shared → Prop} {s : Shared} {a : Addr} {o : Obj}
/-- the end of an addition: the set is stored, and laid out anew if it is too full -/
theorem tailG {g : Bool → Sem Unit} (hg : ∀ (b : Bool) (z : Shared) (U : Unit → Shared → Prop), U () z → wpAny (model P w) A (g b) U E z)
    {es fs : Array (Int × Value)} {ep : Nat} {t u : SetTable} {dm : Bool} {R : Option Bool → Shared → Prop}
    (ho : s.heap.get? a = some o) (hd : o.data = .set es ep t) (hb : fs.size < scanBound) (hf : u.fits fs.size = true) (hr : Ris u.place.toList)
    (hR : ∀ h' (es' : Array (Int × Value)) (ep' : Nat) (t' : SetTable), Heap.SameBut a s.heap h' → h'.get? a = some { o with data := .set es' ep' t' } → es'.toList.Perm fs.toList → t'.fits es'.size = true →
      Ris t'.place.toList → t'.led = u.led → R (some true) { s with heap := h' }) :
    wpAny (model P w) A (do
        storeSet a fs u
        if (!dm && u.tooFull) = true then do
            g (relayAll u fs (SetTable.grown fs.size)).2.2
            storeSet a (relayAll u fs (SetTable.grown fs.size)).1 (relayAll u fs (SetTable.grown fs.size)).2.1
            pure (some true)
          else pure (some true)) R E s := by
  have at1 := store_at (es' := fs) (t' := u) ho hd
  have same1 := Heap.SameBut.update s.heap a (Obj.putSet fs u)
  refine wpAny_bind (wpAny_storeSet_of ho hd ?_ (fits_of_scanBound hb))
  split
  · have perm := relayAll_perm u fs (SetTable.grown fs.size)
    have fit3 := relayAll_fits u fs (SetTable.grown fs.size)
    have ris3 := relayAll_ris u fs (SetTable.grown fs.size)
    have led3 := relayAll_led u fs (SetTable.grown fs.size)
    generalize relayAll u fs (SetTable.grown fs.size) = Z at perm fit3 ris3 led3 ⊢
    obtain ⟨gs, v, gave⟩ := Z
    dsimp only at perm fit3 ris3 led3 ⊢
    have size3 : gs.size = fs.size := by
      have q := perm.length_eq
      rwa [Array.length_toList, Array.length_toList] at q
    refine wpAny_bind (hg _ _ _ ?_)
    refine wpAny_bind (wpAny_storeSet_of at1 rfl ?_ (fits_of_scanBound (by rw [size3]; exact hb)))
    have at3 := store_at (es' := gs) (t' := v) at1 rfl
    exact wpAny_pure (hR _ gs _ v (same1.trans (Heap.SameBut.update _ a _)) at3 perm fit3 ris3 led3)
  · exact wpAny_pure (hR _ fs _ u same1 at1 (List.Perm.refl _) hf hr rfl)
/-- a key is added whose hash is known: it is there, or it comes in -/
theorem addG {κ : Type} [DecidableEq κ] {knd : PySem.KeyKind P w κ} {k : κ} {x : Value} {es : Array (Int × Value)} {ep : Nat} {t : SetTable} {Q : Bool → Shared → Prop}
    (hk : knd.is k x = true) (hx : x.scannable = true) (ho : s.heap.get? a = some o) (hd : o.data = .set es ep t) (hel : ElemsOf knd es.toList) (hb : es.size + 1 < scanBound) (hf : t.fits es.size = true) (hr : Ris t.place.toList)
    (old : (∃ e ∈ es.toList, knd.is k e.2 = true) → Q false s)
    (new : (∀ e ∈ es.toList, knd.is k e.2 = false) → ∀ h' (es' : Array (Int × Value)) (ep' : Nat) (t' : SetTable), Heap.SameBut a s.heap h' → h'.get? a = some { o with data := .set es' ep' t' } →
      es'.toList.Perm ((knd.hash k, x) :: es.toList) → t'.fits es'.size = true → Ris t'.place.toList → t'.led = t.led → Q true { s with heap := h' }) :
    wpAny (model P w) A (setAddHashed a x (knd.hash k)) Q E s := by
  unfold setAddHashed setAddHashedIn
  refine wpAny_holding (wpAny_bind (wpAny_setState_of ho hd hf ?_))
  dsimp only
  rw [byScan_of hx (Nat.lt_of_succ_lt hb) hel]
  simp only [↓reduceIte]
  unfold setAddByScan
  refine wpAny_bind (wpAny_bind (wpAny_rule ?_))
  refine wpAny_bind (wpAny_setScan_of hk ho hd hf hel ?_)
  cases met : List.findIdx? (fun e => knd.is k e.2) es.toList with
  | some j =>
    dsimp only
    obtain ⟨hj, pj, _⟩ := List.findIdx?_eq_some_iff_getElem.mp met
    exact wpAny_pure (wpAny_pure (old ⟨_, List.getElem_mem hj, pj⟩))
  | none =>
    dsimp only
    have no : ∀ e ∈ es.toList, knd.is k e.2 = false := fun e he => List.findIdx?_eq_none_iff.mp met e he
    have gw : ∀ (b : Bool) {z : Shared} {U : Unit → Shared → Prop}, U () z → wpAny (model P w) A (match b with | true => rule "set.scan.the-table-gave-way" | false => pure ()) U E z := fun b z U q => by
      cases b
      · exact wpAny_pure q
      · exact wpAny_rule q
    have perm := layNew_perm t es (knd.hash k) x
    have fit1 := layNew_fits t es (knd.hash k) x
    have ris1 := layNew_ris t es (knd.hash k) x hr
    have led1 := layNew_led t es (knd.hash k) x
    generalize layNew t es (knd.hash k) x = Z at perm fit1 ris1 led1 ⊢
    obtain ⟨fs, u, dm, gave⟩ := Z
    dsimp only at perm fit1 ris1 led1 ⊢
    rw [Array.toList_push] at perm
    have pc : fs.toList.Perm ((knd.hash k, x) :: es.toList) := perm.trans (List.perm_append_singleton _ _)
    have size1 : fs.size < scanBound := by
      have q := pc.length_eq
      rw [List.length_cons, Array.length_toList, Array.length_toList] at q
      omega
    have fin : ∀ (u' : SetTable), u'.led = u.led → ∀ h' (es' : Array (Int × Value)) (ep' : Nat) (t' : SetTable), Heap.SameBut a s.heap h' → h'.get? a = some { o with data := .set es' ep' t' } → es'.toList.Perm fs.toList →
        t'.fits es'.size = true → Ris t'.place.toList → t'.led = u'.led → Q true { s with heap := h' } := fun u' e h' es' ep' t' sb g p f r l =>
      new no h' es' ep' t' sb g (p.trans pc) f r (l.trans (e.trans led1))
    refine wpAny_bind (gw _ ?_)
    split
    · refine wpAny_bind ?_
      rw [hashByValue_scannable 8 hx]
      refine wpAny_pure ?_
      refine tailG ?_ ho hd size1 ?_ ?_ ?_
      · intro b z U q
        cases b
        · exact wpAny_pure q
        · exact wpAny_rule q
      · first
          | exact fit1
          | (split <;> first | exact fit1 | exact SetTable.fits_plain_off fit1)
      · first
          | exact ris1
          | (split <;> exact ris1)
      · intro h' es' ep' t' sb g p f r l
        dsimp only
        refine wpAny_pure (fin _ ?_ h' es' ep' t' sb g p f r l)
        first
          | rfl
          | (split <;> rfl)
    · refine wpAny_bind (wpAny_pure ?_)
      simp only [↓reduceIte]
      refine tailG ?_ ho hd size1 fit1 ris1 ?_
      · intro b z U q
        cases b
        · exact wpAny_pure q
        · exact wpAny_rule q
      · intro h' es' ep' t' sb g p f r l
        dsimp only
        exact wpAny_pure (fin u rfl h' es' ep' t' sb g p f r l)
end
/-! ### a set of texts -/
def nm (e : Int × Value) : Str := match e.2 with | .str x _ => x | _ => Str.empty
def Tx (w : World) (e : Int × Value) : Prop := ∃ x t, e.2 = Value.str x t ∧ e.1 = hashStr w x
/-- the set at a has just the texts ks, each once -/
def Has (w : World) (h : Heap) (a : Addr) (ks : List Str) : Prop :=
  ∃ o es ep t, h.get? a = some o ∧ o.ExactSet ∧ o.data = .set es ep t ∧ (∀ e ∈ es.toList, Tx w e) ∧ (es.toList.map nm).Perm ks ∧ ks.Nodup ∧ ks.length < scanBound ∧ t.fits es.size = true ∧ Ris t.place.toList ∧
    (w.params.followText "set-order" = true ∨ t.led = true)
def plus (ks : List Str) (k : Str) : List Str := if k ∈ ks then ks else k :: ks
section
variable {P : Program} {w : World} {A : Around} {E : Value → Shared → Prop} {s : Shared} {a : Addr} {ks : List Str} {h h' : Heap}
theorem Has.at (R : Has w h a ks) (k : ∀ o, h.get? a = some o → h'.get? a = some o) : Has w h' a ks := by
  obtain ⟨o, es, ep, t, ho, r⟩ := R
  exact ⟨o, es, ep, t, k o ho, r⟩
theorem tx_elems {l : List (Int × Value)} (g : ∀ e ∈ l, Tx w e) : ElemsOf (strKind P w) l := fun e he => by
  obtain ⟨x, t, e1, e2⟩ := g e he
  refine ⟨⟨x, ?_, e2⟩, ?_⟩
  · rw [e1]
    exact strKind_is P w x t
  · rw [e1]
    rfl
theorem tx_is {e : Int × Value} (g : Tx w e) (k : Str) : (strKind P w).is k e.2 = true ↔ nm e = k := by
  obtain ⟨x, t, e1, _⟩ := g
  have n : nm e = x := by unfold nm; rw [e1]
  rw [n, e1]
  constructor
  · intro q
    exact (strKind P w).inj _ _ _ (strKind_is P w x t) q
  · intro q
    subst q
    exact strKind_is P w x t
theorem size_of {es : Array (Int × Value)} (p : (es.toList.map nm).Perm ks) : es.size = ks.length := by
  have q := p.length_eq
  rwa [List.length_map, Array.length_toList] at q
/-- one text more -/
theorem add_raw {k : Str} {tk : Tok} {Q : Value → Shared → Prop} (R : Has w s.heap a ks) (room : ks.length + 1 < scanBound)
    (hQ : ∀ h', Heap.SameBut a s.heap h' → Has w h' a (plus ks k) → Q .none { s with heap := h', toks := s.toks + 1 }) :
    wpAny (model P w) A (call (.builtin "set.add") [.ref a, .str k tk]) Q E s := by
  obtain ⟨o, es, ep, t, ho, hex, hd, g, pm, nd, hb, hf, hr, hl⟩ := R
  have hsz := size_of pm
  have hS : s.TypeIs (.ref a) "set" := ⟨o, ho, hex.1⟩
  refine wpAny_call_entry F.slot_set_add hS F.entry_set_add ?_ (F.args_set_add_2 _ _)
  unfold Builtin.«set.add» Builtin.Frozenset.oneOther
  simp only [List.isEmpty_nil, bind_assoc]
  unfold Builtin.Frozenset.addrOf setAdd
  refine wpAny_bind (wpAny_pure ?_)
  try dsimp only
  refine wpAny_bind (wpAny_pure ?_)
  try dsimp only
  refine wpAny_bind (wpAny_holding (wpAny_bind ((strKind P w).pyHash (strKind_is P w k tk) ?_)))
  have mem : (∃ e ∈ es.toList, (strKind P w).is k e.2 = true) ↔ k ∈ ks := by
    rw [← pm.mem_iff, List.mem_map]
    exact ⟨fun ⟨e, he, q⟩ => ⟨e, he, (tx_is (g e he) k).1 q⟩, fun ⟨e, he, q⟩ => ⟨e, he, (tx_is (g e he) k).2 q⟩⟩
  refine addG (knd := strKind P w) (s := { s with toks := s.toks + 1 }) (strKind_is P w k tk) rfl ho hd (tx_elems g) (by rw [hsz]; exact room) hf hr ?_ ?_
  · intro there
    have hk : k ∈ ks := mem.1 there
    have ek : plus ks k = ks := if_pos hk
    refine wpAny_pure ⟨_, rfl, hQ s.heap (Heap.SameBut.refl a s.heap) ?_⟩
    rw [ek]
    exact ⟨o, es, ep, t, ho, hex, hd, g, pm, nd, hb, hf, hr, hl⟩
  · intro no h' es' ep' t' sb ho' p f r l
    have hk : k ∉ ks := fun z => by
      obtain ⟨e, he, q⟩ := mem.2 z
      rw [no e he] at q
      cases q
    have ek : plus ks k = k :: ks := if_neg hk
    refine wpAny_pure ⟨_, rfl, hQ h' sb ?_⟩
    rw [ek]
    refine ⟨_, es', ep', t', ho', hex, rfl, fun e he => ?_, ?_, List.nodup_cons.mpr ⟨hk, nd⟩, room, f, r, hl.imp id fun z => l.trans z⟩
    · rcases List.mem_cons.mp (p.mem_iff.mp he) with z | z
      · rw [z]
        exact ⟨k, tk, rfl, rfl⟩
      · exact g e z
    · exact (p.map nm).trans (pm.cons k)
theorem has_fresh {h : Heap} (w : World) : Has w (h.push { cls := .type "set", dict := none, data := .set #[] 0 (.fresh 0 0 (!w.params.followText "set-order")) }) h.objs.size [] := by
  refine ⟨_, #[], 0, _, Heap.get?_push_size _ rfl, ⟨rfl, rfl, rfl⟩, rfl, (fun e he => by simp at he), List.Perm.refl _, List.nodup_nil, by decide, by rfl, List.Pairwise.nil, ?_⟩
  show _ ∨ (!w.params.followText "set-order") = true
  cases w.params.followText "set-order" with
  | false => exact .inr rfl
  | true => exact .inl rfl
end
/-- a set of texts as a tracked thing -/
def TxO (w : World) (a : Addr) (ks : List Str) : HO := .ext fun h => Has w h a ks
theorem txO_new {w : World} {P : Program} {H : Hp} {h : Heap} {a : Addr} {ks : List Str} (R : Has w h a ks) : ObjOk P w H h a (TxO w a ks) := by
  have ⟨o, _, _, _, ho, _⟩ := R
  exact ⟨R, ⟨o, ho⟩, fun h1 h2 p k => Has.at p k⟩
section
variable {X : Cx}
theorem txO_get {pins : List (Addr × Obj)} {σ : L2.St} {H : Hp} {s : Shared} {a : Addr} {ks : List Str} (I : Inv X pins σ H s) (ha : H a = some (TxO X.w a ks)) : Has X.w s.heap a ks := (I.hok a _ ha).1
theorem add_ok {pins : List (Addr × Obj)} {σ : L2.St} {H : Hp} {s : Shared} {E : Value → Shared → Prop} {D : Addr} {ks : List Str} {k : Str} {tk : Tok} {Q : Value → Shared → Prop} (I : Inv X pins σ H s) (hD : H D = some (TxO X.w D ks)) (room : ks.length + 1 < scanBound)
    (q : ∀ s', Inv X pins σ (upd H D (TxO X.w D (plus ks k))) s' → Q .none s') : wpAny (model X.prog X.w) X.A (call (.builtin "set.add") [.ref D, .str k tk]) Q E s := by
  refine add_raw (txO_get I hD) room fun h' sb new => ?_
  have there : ∃ u, h'.get? D = some u := by
    obtain ⟨o, _, _, _, ho, _⟩ := new
    exact ⟨o, ho⟩
  exact q _ (I.write (e := D) (t' := s.toks + 1) (by rw [hD]; trivial) (.inl rfl) (fun b u hb hu => (sb.2 b hb).trans hu) there (txO_new new))
/-! ### sorted of it -/
def rSortTx (w : World) : List V → Hp → VK → Prop := fun vs H Q => ∃ (a : Addr) (ks : List Str), vs = [V.ref a] ∧ H a = some (TxO w a ks) ∧ ks.length < 64 ∧
  ∀ (ys : List Str) (p : Addr), ys.Perm ks → sortedS ys = true → H p = none → Q (.ref p) (upd H p (.lst (ys.map V.str)))
end
/-- all of them, each once -/
def gathered (xs : List Str) : List Str := xs.foldl plus []
theorem plus_mem {ks : List Str} {k x : Str} : x ∈ plus ks k ↔ x = k ∨ x ∈ ks := by
  unfold plus
  by_cases h : k ∈ ks
  · rw [if_pos h]
    exact ⟨.inr, fun z => z.elim (fun e => e ▸ h) id⟩
  · rw [if_neg h, List.mem_cons]
theorem plus_nd {ks : List Str} {k : Str} (nd : ks.Nodup) : (plus ks k).Nodup := by
  unfold plus
  by_cases h : k ∈ ks
  · rw [if_pos h]
    exact nd
  · rw [if_neg h]
    exact List.nodup_cons.mpr ⟨h, nd⟩
theorem plus_len (ks : List Str) (k : Str) : (plus ks k).length ≤ ks.length + 1 := by
  unfold plus
  by_cases h : k ∈ ks
  · rw [if_pos h]
    exact Nat.le_succ _
  · rw [if_neg h]
    exact Nat.le_refl _
theorem fold_facts : ∀ (xs ks : List Str), ks.Nodup → (xs.foldl plus ks).Nodup ∧ (∀ x, x ∈ xs.foldl plus ks ↔ x ∈ xs ∨ x ∈ ks) ∧ (xs.foldl plus ks).length ≤ ks.length + xs.length
  | [], ks, nd => ⟨nd, fun x => by simp, by simp⟩
  | k :: xs, ks, nd => by
    obtain ⟨h1, h2, h3⟩ := fold_facts xs (plus ks k) (plus_nd nd)
    refine ⟨h1, fun x => ?_, ?_⟩
    · rw [List.foldl_cons, h2 x, plus_mem, List.mem_cons]
      constructor
      · rintro (h | h | h)
        · exact .inl (.inr h)
        · exact .inl (.inl h)
        · exact .inr h
      · rintro ((h | h) | h)
        · exact .inr (.inl h)
        · exact .inl h
        · exact .inr (.inr h)
    · rw [List.foldl_cons, List.length_cons]
      have := plus_len ks k
      omega
theorem gathered_facts (xs : List Str) : (gathered xs).Nodup ∧ (∀ x, x ∈ gathered xs ↔ x ∈ xs) ∧ (gathered xs).length ≤ xs.length := by
  obtain ⟨h1, h2, h3⟩ := fold_facts xs [] List.nodup_nil
  refine ⟨h1, fun x => ?_, ?_⟩
  · show x ∈ xs.foldl plus [] ↔ _
    rw [h2 x]
    simp
  · show (xs.foldl plus []).length ≤ xs.length
    simpa using h3
theorem gathered_snoc (xs : List Str) (k : Str) : gathered (xs ++ [k]) = plus (gathered xs) k := by
  unfold gathered
  rw [List.foldl_append]
  rfl
end Nm
namespace Nm
open PySem PySem.Spec PyProof.Rows L2
open C8 (Cal Mak pe_c pe_mk pe_gc)
open RZ (ItzT pi_zipA)
/-- a def of the text that stands under its name -/
def Top (K : PySem.W.Frag) (mg : Str → Option Value) (x : Str) (st : Stmt) : Prop := ∃ f fd, Fun K x x st f fd ∧ mg x = some (.ref f)
section
variable {P : Program} {w : World} {K : PySem.W.Frag} {mg : Str → Option Value} {base : Heap}
theorem cal_of {x : Str} {st : Stmt} {N ps : List Str} {k : Nat} {sp : Sp} (D : Top K mg x st) (S : FnScope N ps (defScope st))
    (hb : ∀ (kV doc pm : Value) (an : Option Addr) (cdv ct : Value) (us : List Value), us.length = ps.length → bindArgs (PySem.W.fnOf x x (defArgs st) (defBody st) (defScope st) .none kV doc pm an cdv ct) ⟨us, []⟩ = pure (ps.zip us))
    (len : ∀ vs H Q E, sp vs H Q E → vs.length = ps.length)
    (body : ∀ (f : Addr) (cdv : Value) (A : Around) (outer : List Env) (s : Shared) (H : Hp) (vs : List V) (Q : VK) (E : XK), Room k (A.deeper (envOfC x (defScope st) s.heap.objs.size f cdv)) → sp vs H Q E →
      ∃ t, PSs (cxOf CX0 P w K mg base N x (defScope st) f cdv A outer s H E).nox (defBody st) t ∧ t { nx := fun _ H' => Q .non H', rt := Q } (start N vs) H) : Cal P w K mg base (k + 1) x sp [] := by
  obtain ⟨f, fd, F, hm⟩ := D
  exact ⟨f, fd, ps, [], F.ok S len fun cdv A outer s H vs Q E hr h => body f cdv A outer s H vs Q E hr h, hm, F.kp, F.binds hb, .nil⟩
end
theorem cal_mono {P : Program} {w : World} {K : PySem.W.Frag} {mg : Str → Option Value} {base : Heap} {k : Nat} {x : Str} {sp sp' : Sp} (c : Cal P w K mg base k x sp []) (h : ∀ vs H Q E, sp' vs H Q E → sp vs H Q E) : Cal P w K mg base k x sp' [] := by
  obtain ⟨f, fd, ps, ds, F, hm, kp, b, d⟩ := c.ex
  obtain ⟨F1, F2⟩ := F
  exact ⟨f, fd, ps, ds, ⟨fun vs H Q E q => F1 vs H Q E (h vs H Q E q), fun A outer s H args us vs Q E a1 a2 a3 a4 q => F2 A outer s H args us vs Q E a1 a2 a3 a4 (h vs H Q E q)⟩, hm, kp, b, d⟩
/-- laid over something new all stands -/
theorem same_new {H : Hp} {p : Addr} {o : HO} (h : H p = none) : Same H (upd H p o) := fun b u q => by
  rw [upd_ne (ne_of_none q h)]
  exact q
/-- what happens to a new object leaves the rest -/
theorem same_mut {H H' : Hp} {p : Addr} {o : HO} (g : Same H H') (h : H p = none) : Same H (upd H' p o) := fun b u q => by
  rw [upd_ne (ne_of_none q h)]
  exact g b u q
/-- what isinstance says -/
theorem is_int {K : PySem.W.Frag} : PySem.W.kitOne K (.type "int") (.type "int") = some true := kit_ty (by decide +kernel)
theorem is_int_bool {K : PySem.W.Frag} : PySem.W.kitOne K (.type "int") (.type "bool") = some false := kit_ty (by decide +kernel)
theorem is_tup_int {K : PySem.W.Frag} : PySem.W.kitOne K (.type "tuple") (.type "int") = some false := kit_ty (by decide +kernel)
theorem is_tup {K : PySem.W.Frag} : PySem.W.kitOne K (.type "tuple") (.type "tuple") = some true := kit_ty (by decide +kernel)
theorem is_int_tup {K : PySem.W.Frag} : PySem.W.kitOne K (.type "int") (.type "tuple") = some false := kit_ty (by decide +kernel)
theorem is_str {K : PySem.W.Frag} : PySem.W.kitOne K (.type "str") (.type "str") = some true := kit_ty (by decide +kernel)
theorem is_bool {K : PySem.W.Frag} : PySem.W.kitOne K (.type "bool") (.type "bool") = some true := kit_ty (by decide +kernel)
def isInt : V → Bool
  | .int _ => true
  | _ => false
def isStr : V → Bool
  | .str _ => true
  | _ => false
/-- isinstance(x, n) is b -/
def TyC (K : PySem.W.Frag) (H : Hp) (x : V) (n : String) (b : Bool) : Prop := ∃ t, TyX K H x t ∧ PySem.W.kitOne K t (.type n) = some b
/-- what the program's own look for an integer needs -/
def TyI (K : PySem.W.Frag) (H : Hp) (x : V) : Prop := ∃ b c, TyC K H x "int" b ∧ TyC K H x "bool" c ∧ (b && !c) = isInt x
section
variable {K : PySem.W.Frag} {H : Hp}
theorem tyc_int (i : Int) : TyC K H (.int i) "int" true := ⟨_, .base (.int i), kit_ty (by decide +kernel)⟩
theorem tyi_int (i : Int) : TyI K H (.int i) := ⟨true, false, ⟨_, .base (.int i), kit_ty (by decide +kernel)⟩, ⟨_, .base (.int i), kit_ty (by decide +kernel)⟩, rfl⟩
theorem tyi_tup {a : Addr} {xs : List V} (h : H a = some (.tup xs)) : TyI K H (.ref a) := ⟨false, false, ⟨_, .base (.tup h), kit_ty (by decide +kernel)⟩, ⟨_, .base (.tup h), kit_ty (by decide +kernel)⟩, rfl⟩
theorem tyi_str (z : Str) : TyI K H (.str z) := ⟨false, false, ⟨_, .base (.str z), kit_ty (by decide +kernel)⟩, ⟨_, .base (.str z), kit_ty (by decide +kernel)⟩, rfl⟩
theorem tyc_tup {a : Addr} {xs : List V} (h : H a = some (.tup xs)) : TyC K H (.ref a) "tuple" true := ⟨_, .base (.tup h), kit_ty (by decide +kernel)⟩
theorem tyc_int_tup (i : Int) : TyC K H (.int i) "tuple" false := ⟨_, .base (.int i), kit_ty (by decide +kernel)⟩
theorem tyc_str (z : Str) : TyC K H (.str z) "str" true := ⟨_, .base (.str z), kit_ty (by decide +kernel)⟩
theorem tyc_bl (b : Bool) : TyC K H (.bl b) "bool" true := ⟨_, .base (.bl b), kit_ty (by decide +kernel)⟩
end
/-- a text of 1 to most letters a to z -/
def letB (z : Str) (most : Int) : Bool := decide (1 ≤ (z.length : Int)) && decide ((z.length : Int) ≤ most) && z.cps.toList.all (fun c => decide (97 ≤ c) && decide (c ≤ 122))
def letV (x : V) (most : Int) : Bool := match x with | .str z => letB z most | _ => false
def within (x : V) (lo hi : Int) : Bool := match x with | .int n => decide (lo ≤ n) && decide (n ≤ hi) | _ => false
theorem sign_lt (c d : Nat) : decide (([c] : List Nat) < [d]) = decide (c < d) := by
  by_cases h : c < d
  · rw [decide_eq_true h]
    exact decide_eq_true (List.Lex.rel h)
  · rw [decide_eq_false h]
    refine decide_eq_false fun q => ?_
    cases q with
    | rel r => exact h r
    | cons r => cases r
/-! ### boards -/
/-- a board: its name, the side, the row that was played -/
abbrev Bd := Str × Int × List Str
def BoardAt (H : Hp) (v : V) (b : Bd) : Prop := ∃ a r, v = .ref a ∧ H a = some (.tup [.str b.1, .int b.2.1, .ref r]) ∧ H r = some (.tup (b.2.2.map V.str))
def BoardsAt (H : Hp) (a : Addr) (bs : List Bd) : Prop := ∃ xs, H a = some (.tup xs) ∧ Paired (BoardAt H) xs bs
def rowB (ws : List Str) (most : Int) : Bool := decide ((ws.length : Int) ≤ most) && ws.all (fun z => letB z 20)
def boardB (b : Bd) : Bool := letB b.1 8 && (within (.int b.2.1) 0 1 && rowB b.2.2 20)
/-- nothing here is too long for the model -/
def smallBd (b : Bd) : Prop := b.1.length ≤ 1000 ∧ b.2.2.length ≤ 1000 ∧ ∀ z ∈ b.2.2, z.length ≤ 1000
theorem BoardAt.mono {H H' : Hp} (k : ∀ a xs, H a = some (.tup xs) → H' a = some (.tup xs)) {v : V} {b : Bd} (h : BoardAt H v b) : BoardAt H' v b := by
  obtain ⟨a, r, e, h1, h2⟩ := h
  exact ⟨a, r, e, k _ _ h1, k _ _ h2⟩
theorem paired_mono {α β : Type} {R S : α → β → Prop} (h : ∀ a b, R a b → S a b) : ∀ {xs : List α} {ys : List β}, Paired R xs ys → Paired S xs ys
  | _, _, .nil => .nil
  | _, _, .cons r t => .cons (h _ _ r) (paired_mono h t)
theorem paired_at {α β : Type} {R : α → β → Prop} : ∀ {xs : List α} {ys : List β}, Paired R xs ys → ∀ (i : Nat) (x : α), xs[i]? = some x → ∃ y, ys[i]? = some y ∧ R x y
  | _, _, .nil, i, x, h => by simp at h
  | _, _, .cons r t, 0, x, h => by
    simp at h
    subst h
    exact ⟨_, rfl, r⟩
  | _, _, .cons r t, i + 1, x, h => by
    obtain ⟨y, h1, h2⟩ := paired_at t i x (by simpa using h)
    exact ⟨y, by simpa using h1, h2⟩
theorem paired_len {α β : Type} {R : α → β → Prop} : ∀ {xs : List α} {ys : List β}, Paired R xs ys → xs.length = ys.length
  | _, _, .nil => rfl
  | _, _, .cons _ t => by rw [List.length_cons, List.length_cons, paired_len t]
theorem BoardsAt.mono {H H' : Hp} (k : ∀ a xs, H a = some (.tup xs) → H' a = some (.tup xs)) {a : Addr} {bs : List Bd} (h : BoardsAt H a bs) : BoardsAt H' a bs := by
  obtain ⟨xs, h1, h2⟩ := h
  exact ⟨xs, k _ _ h1, paired_mono (fun _ _ => BoardAt.mono k) h2⟩
theorem same_tups {H H' : Hp} (g : Same H H') : ∀ a xs, H a = some (.tup xs) → H' a = some (.tup xs) := fun a xs h => g a _ h
/-! ### texts gathered -/
theorem take_one {α : Type} {l : List α} {i : Nat} {x : α} (h : l[i]? = some x) : l.take (i + 1) = l.take i ++ [x] := by
  rw [List.take_add_one, h]
  rfl
/-- the program's own word for the names: each once, ascending -/
structure Names (xs ys : List Str) : Prop where
  up : PyProof.Rows.sortedS ys = true
  nd : ys.Nodup
  mem : ∀ x, x ∈ ys ↔ x ∈ xs
/-- a hall stands at p, with these boards -/
def HallAt (K : PySem.W.Frag) (H : Hp) (p : Addr) (bs : List Bd) : Prop := ∃ C dx fs a n ys, Cls K C ∧ NoAttr K C "boards" ∧ NoAttr K C "names" ∧ H p = some (.ins C dx fs) ∧ fs.lookup ("boards" : Str) = some (.ref a) ∧ fs.lookup ("names" : Str) = some (.ref n) ∧
  BoardsAt H a bs ∧ H n = some (.tup (ys.map V.str)) ∧ Names (bs.map (·.1)) ys
/-- all that is no list stands -/
def Keep (H H' : Hp) : Prop := ∀ b o, H b = some o → (∀ xs, o ≠ .lst xs) → H' b = some o
theorem same_keep {H H' : Hp} (g : Same H H') : Keep H H' := fun b o h _ => g b o h
theorem Keep.refl (H : Hp) : Keep H H := fun _ _ h _ => h
theorem Keep.trans {H H1 H2 : Hp} (a : Keep H H1) (b : Keep H1 H2) : Keep H H2 := fun c o h n => b c o (a c o h n) n
theorem Keep.tups {H H' : Hp} (g : Keep H H') : ∀ a xs, H a = some (.tup xs) → H' a = some (.tup xs) := fun a xs h => g a _ h fun _ e => nomatch e
theorem HallAt.mono {K : PySem.W.Frag} {H H' : Hp} (g : Keep H H') {p : Addr} {bs : List Bd} (h : HallAt K H p bs) : HallAt K H' p bs := by
  obtain ⟨C, dx, fs, a, n, ys, h1, h2, h3, h4, h5, h6, h7, h8, h9⟩ := h
  exact ⟨C, dx, fs, a, n, ys, h1, h2, h3, g _ _ h4 (fun _ e => nomatch e), h5, h6, h7.mono g.tups, g.tups _ _ h8, h9⟩
theorem nb_ne : ¬ (("boards" : Str) = "names") := by decide +kernel
/-! ### zip of two tuples of any lengths -/
theorem walk_zipT {K : PySem.W.Frag} {a b : Addr} {xs ys : List V} {n : Nat} (hn : n = min xs.length ys.length) : Walk (ItzT K a b) n (fun H => SqT K H a xs ∧ SqT K H b ys) (YPair (fun i => xs[i]?) (fun i => ys[i]?)) := by
  subst hn
  refine ⟨fun i _ hi q => ?_, fun _ q => ⟨xs, ys, q.1, q.2, by omega⟩, fun i H v H' _ q y => ?_⟩
  · have h1 : i < xs.length := by omega
    have h2 : i < ys.length := by omega
    exact ⟨xs, ys, xs[i], ys[i], q.1, q.2, by simp [h1], by simp [h2]⟩
  · obtain ⟨T, x, z, h1, h2, h3, h4, h5⟩ := y
    exact ⟨T, x, z, h1, h2, h3, h4 xs q.1, h5 ys q.2⟩
/-- the ints rise, each pair of neighbours looked at -/
def ascB (ns : List Int) : Bool := (ns.zip (ns.drop 1)).all fun p => decide (p.1 < p.2)
theorem ascB_of {ns : List Int} (h : ns.Pairwise (· < ·)) : ascB ns = true := by
  unfold ascB
  rw [List.all_eq_true]
  intro p hp
  refine decide_eq_true ?_
  induction ns with
  | nil => simp at hp
  | cons a r ih =>
    obtain ⟨h1, h2⟩ := List.pairwise_cons.mp h
    cases r with
    | nil => simp at hp
    | cons b r =>
      rw [List.drop_one, List.tail_cons] at hp
      rcases List.mem_cons.mp (by simpa using hp) with e | e
      · subst e
        exact h1 b List.mem_cons_self
      · refine ih h2 ?_
        rw [List.drop_one, List.tail_cons]
        exact e
theorem map_at {α β : Type} {f : α → β} {l : List α} {i : Nat} {y : β} (h : (l.map f)[i]? = some y) : ∃ x, l[i]? = some x ∧ y = f x := by
  rw [List.getElem?_map] at h
  cases e : l[i]? with
  | none =>
    rw [e] at h
    cases h
  | some x =>
    rw [e] at h
    exact ⟨x, rfl, (Option.some.inj h).symm⟩
/-- a def that nobody can ask anything of -/
theorem cal_void {P : Program} {w : World} {K : PySem.W.Frag} {mg : Str → Option Value} {base : Heap} {x : Str} {st : Stmt} {ps : List Str} {k : Nat} {sp : Sp} (D : Top K mg x st)
    (hb : ∀ (kV doc pm : Value) (an : Option Addr) (cdv ct : Value) (us : List Value), us.length = ps.length → PySem.bindArgs (PySem.W.fnOf x x (defArgs st) (defBody st) (defScope st) .none kV doc pm an cdv ct) ⟨us, []⟩ = pure (ps.zip us))
    (no : ∀ vs H Q E, ¬ sp vs H Q E) : Cal P w K mg base k x sp [] := by
  obtain ⟨f, fd, F, hm⟩ := D
  exact ⟨f, fd, ps, [], ⟨fun vs H Q E h => absurd h (no vs H Q E), fun A outer s H args us vs Q E _ _ _ _ h => absurd h (no vs H Q E)⟩, hm, F.kp, F.binds hb, .nil⟩
/-! ### aims -/
inductive AKind where
  | all | some | least (k : Int)
def AKind.head : AKind → List V
  | .all => [.str "all"]
  | .some => [.str "some"]
  | .least k => [.str "least", .int k]
def AKind.ok : AKind → Prop
  | .least k => 0 ≤ k ∧ k ≤ 25
  | _ => True
def AKind.val : AKind → List Bool → Bool
  | .all, bs => bs.all id
  | .some, bs => bs.any id
  | .least k, bs => decide (k ≤ (bs.count true : Nat))
def AKind.need : AKind → Nat → Int
  | .all, n => n
  | .some, _ => 1
  | .least k, _ => k
/-- what an aim says of the boards that are won -/
abbrev ASem := (Int → Bool) → Bool
/-- at v stands an aim of boards below many, at most d deep, of s aims, that says φ -/
def AimV (H : Hp) (many : Int) : Nat → V → Nat → ASem → Prop
  | 0, _, _, _ => False
  | d + 1, v, s, φ => (∃ n : Int, v = .int n ∧ 0 ≤ n ∧ n < many ∧ s = 1 ∧ φ = fun w => w n) ∨
    (∃ (a p : Addr) (xs : List V) (kd : AKind) (ys : List (Nat × ASem)), v = .ref a ∧ H a = some (.tup (kd.head ++ [.ref p])) ∧ H p = some (.tup xs) ∧ kd.ok ∧ xs.length ≤ 24 ∧ Paired (fun x y => AimV H many d x y.1 y.2) xs ys ∧
      s = 1 + (ys.map (·.1)).sum ∧ φ = fun w => kd.val (ys.map fun y => y.2 w))
theorem AimV.mono {H H' : Hp} {many : Int} (k : ∀ a xs, H a = some (.tup xs) → H' a = some (.tup xs)) : ∀ {d : Nat} {v : V} {s : Nat} {φ : ASem}, AimV H many d v s φ → AimV H' many d v s φ
  | 0, _, _, _, h => h.elim
  | d + 1, v, s, φ, h => by
    rcases h with h | ⟨a, p, xs, kd, ys, h1, h2, h3, h4, h5, h6, h7, h8⟩
    · exact .inl h
    · exact .inr ⟨a, p, xs, kd, ys, h1, k _ _ h2, k _ _ h3, h4, h5, paired_mono (fun _ _ h => AimV.mono k h) h6, h7, h8⟩
theorem AimV.deeper {H : Hp} {many : Int} : ∀ {d e : Nat} {v : V} {s : Nat} {φ : ASem}, d ≤ e → AimV H many d v s φ → AimV H many e v s φ
  | 0, _, _, _, _, _, h => h.elim
  | d + 1, 0, _, _, _, l, _ => absurd l (Nat.not_succ_le_zero d)
  | d + 1, e + 1, v, s, φ, l, h => by
    rcases h with h | ⟨a, p, xs, kd, ys, h1, h2, h3, h4, h5, h6, h7, h8⟩
    · exact .inl h
    · exact .inr ⟨a, p, xs, kd, ys, h1, h2, h3, h4, h5, paired_mono (fun _ _ h => AimV.deeper (Nat.le_of_succ_le_succ l) h) h6, h7, h8⟩
theorem AimV.pos {H : Hp} {many : Int} : ∀ {d : Nat} {v : V} {s : Nat} {φ : ASem}, AimV H many d v s φ → 1 ≤ s
  | 0, _, _, _, h => h.elim
  | d + 1, v, s, φ, h => by
    rcases h with ⟨n, _, _, _, e, _⟩ | ⟨a, p, xs, kd, ys, h1, h2, h3, h4, h5, h6, h7, h8⟩ <;> omega
theorem head_len (kd : AKind) : (kd.head ++ [V.ref p]).length = 2 ∨ (kd.head ++ [V.ref p]).length = 3 := by
  cases kd
  · exact .inl rfl
  · exact .inl rfl
  · exact .inr rfl
def b2 (b : Bool) : Int := if b then 1 else 0
theorem iteP {c A B : Prop} [Decidable c] (hc : c) (h : A) : if c then A else B := by
  rw [if_pos hc]
  exact h
theorem iteN {c A B : Prop} [Decidable c] (hc : ¬ c) (h : B) : if c then A else B := by
  rw [if_neg hc]
  exact h
theorem nt {b : Bool} (h : b = false) : ¬ b = true := by rw [h]; exact Bool.false_ne_true
theorem l2 : 2 ≤ PySem.sizeLine := by decide
theorem sum_take_le : ∀ (l : List Nat) (i : Nat), (l.take i).sum ≤ l.sum
  | [], i => by simp
  | x :: l, 0 => by simp
  | x :: l, i + 1 => by
    have := sum_take_le l i
    simp only [List.take_succ_cons, List.sum_cons]
    omega
theorem sum_take_one {l : List Nat} {i x : Nat} (h : l[i]? = some x) : (l.take (i + 1)).sum = (l.take i).sum + x := by
  rw [take_one h, List.sum_append]
  simp
theorem int_ne {i j : Int} (h : i ≠ j) : decide (V.int i = V.int j) = false := decide_eq_false fun e => h (V.int.inj e)
theorem int_eq {i j : Int} (h : i = j) : decide (V.int i = V.int j) = true := decide_eq_true (congrArg V.int h)
/-! ### the tape from which a law draws -/
def TapeAt (H : Hp) (tp l : Addr) : Prop := ∃ (ns : List Int) (i c m n : Int), H tp = some (.lst [.ref l, .int i, .int c, .int m, .int n]) ∧ H l = some (.lst (ns.map V.int)) ∧ 0 ≤ i
/-- all but the tape stands -/
def Mov (tp : Addr) (H H' : Hp) : Prop := ∀ b o, H b = some o → b ≠ tp → H' b = some o
theorem Mov.refl (tp : Addr) (H : Hp) : Mov tp H H := fun _ _ h _ => h
theorem Mov.trans {tp : Addr} {H H1 H2 : Hp} (a : Mov tp H H1) (b : Mov tp H1 H2) : Mov tp H H2 := fun c o h n => b c o (a c o h n) n
theorem mov_same {tp : Addr} {H H' : Hp} (g : Same H H') : Mov tp H H' := fun b o h _ => g b o h
theorem mov_upd {tp : Addr} {H : Hp} {o : HO} : Mov tp H (upd H tp o) := fun b u h n => by
  rw [upd_ne n]
  exact h
theorem mov_mut {tp : Addr} {H H' : Hp} {p : Addr} {o : HO} (g : Mov tp H H') (h : H p = none) : Mov tp H (upd H' p o) := fun b u q n => by
  rw [upd_ne (ne_of_none q h)]
  exact g b u q n
theorem TapeAt.keep {H H' : Hp} {tp l : Addr} (t : TapeAt H tp l) (m : Mov tp H H') : Keep H H' := fun b o h n => m b o h fun e => by
  obtain ⟨ns, i, c, k, j, h1, _⟩ := t
  rw [e, h1] at h
  exact n _ (Option.some.inj h).symm
theorem TapeAt.same {H H' : Hp} {tp l : Addr} (t : TapeAt H tp l) (g : Same H H') : TapeAt H' tp l := by
  obtain ⟨ns, i, c, k, j, h1, h2, h3⟩ := t
  exact ⟨ns, i, c, k, j, g _ _ h1, g _ _ h2, h3⟩
theorem TapeAt.new {H : Hp} {tp l p : Addr} (t : TapeAt H tp l) (h : H p = none) : p ≠ tp ∧ p ≠ l := by
  obtain ⟨ns, i, c, k, j, h1, h2, h3⟩ := t
  exact ⟨(ne_of_none h1 h).symm, (ne_of_none h2 h).symm⟩
theorem TapeAt.upd {H : Hp} {tp l p : Addr} {o : HO} (t : TapeAt H tp l) (n : p ≠ tp ∧ p ≠ l) : TapeAt (L2.upd H p o) tp l := by
  obtain ⟨ns, i, c, k, j, h1, h2, h3⟩ := t
  exact ⟨ns, i, c, k, j, by rw [upd_ne n.1.symm]; exact h1, by rw [upd_ne n.2.symm]; exact h2, h3⟩
theorem keep_lst {H : Hp} {p : Addr} {xs ys : List V} (h : H p = some (.lst xs)) : Keep H (upd H p (.lst ys)) := fun b o hb n => by
  rw [upd_ne (fun e => by rw [e, h] at hb; exact n _ (Option.some.inj hb).symm)]
  exact hb
theorem paired_snoc {α β : Type} {R : α → β → Prop} : ∀ {xs : List α} {ys : List β} {x : α} {y : β}, Paired R xs ys → R x y → Paired R (xs ++ [x]) (ys ++ [y])
  | _, _, _, _, .nil, h => .cons h .nil
  | _, _, _, _, .cons r t, h => .cons r (paired_snoc t h)
theorem sum_bound {B : Nat} : ∀ (l : List Nat), (∀ x ∈ l, x ≤ B) → l.sum ≤ B * l.length
  | [], _ => by simp
  | x :: l, h => by
    have h1 := h x List.mem_cons_self
    have h2 := sum_bound l fun y hy => h y (List.mem_cons_of_mem _ hy)
    rw [List.sum_cons, List.length_cons, Nat.mul_succ]
    omega
theorem tape_ne {H : Hp} {tp l : Addr} {ns : List Int} {i c m n : Int} (h1 : H tp = some (.lst [.ref l, .int i, .int c, .int m, .int n])) (h2 : H l = some (.lst (ns.map V.int))) : l ≠ tp := fun e => by
  rw [e, h1] at h2
  cases ns with
  | nil => cases h2
  | cons a r => cases h2
theorem at_getD {L : List Int} {k : Nat} (h : k < L.length) : atI (L.map V.int) (k : Int) = some (V.int (L.getD k 0)) := by
  refine atI_nat ?_
  rw [List.getElem?_map, List.getD_eq_getElem?_getD, List.getElem?_eq_getElem h]
  rfl
theorem ixN_nat {n k : Nat} (h : k < n) : ixN n (k : Int) = some k := by
  unfold ixN
  rw [if_pos (by omega), if_pos (by omega)]
  rfl
theorem in_ints (n : Int) : ∀ ns : List Int, inV (.int n) (ns.map V.int) = decide (n ∈ ns)
  | [] => rfl
  | m :: ns => by
    have ih := in_ints n ns
    unfold inV at ih ⊢
    rw [List.map_cons, List.any_cons, ih]
    have e : eqV (V.int m) (V.int n) = decide (m = n) := by
      show (m == n) = decide (m = n)
      by_cases h : m = n
      · rw [decide_eq_true h, h]
        exact beq_self_eq_true n
      · rw [decide_eq_false h]
        exact beq_eq_false_iff_ne.mpr h
    rw [e]
    by_cases h : m = n
    · subst h
      simp
    · have h' : ¬ n = m := fun z => h z.symm
      simp [h, h']
theorem flat_ints (ns : List Int) : (ns.map V.int).all flatV = true := by
  rw [List.all_map]
  exact List.all_eq_true.mpr fun _ _ => rfl
end Nm
namespace Nm
open PySem PySem.Spec PyProof.Rows L2
section
variable {X : Cx}
/-- what a set display by a walk asks, its element being a text -/
def tNm (w : World) (wi : TI) (g : TG) (te : TE) (vs : List Nat) : TE := fun σ H Q => wi σ H fun J H1 => ∀ D, H1 D = none → ∃ W : Nat → Nat → Hp → Prop,
  (∃ m, W 0 m (upd H1 D (TxO w D []))) ∧ ∀ i m H, W i m H → (J.stop i H ∧ Q (.ref D) H) ∨ (J.go i H ∧ ∃ Nx : Hp → Prop, (∀ H', Nx H' → ∃ m', m' < m ∧ W (i + 1) m' H') ∧
    ∀ x H', J.yld i H x H' → g x (wipe σ vs) H' fun σ2 H2 => wipe σ2 vs = wipe σ vs ∧ te σ2 H2 fun y H4 =>
      ∃ (c : Str) (ks : List Str), y = .str c ∧ H4 D = some (TxO w D ks) ∧ ks.length + 1 < scanBound ∧ Nx (upd H4 D (TxO w D (plus ks c))))
/-- a new set as the model makes it -/
abbrev setObj (X : Cx) : Obj := { cls := .type "set", dict := none, data := .set #[] 0 (.fresh 0 0 (!X.w.params.followText "set-order")) }
theorem pe_nm {elt tg iter : Expr} {scope : Scope} {own : List (PySem.Str × Nat)} {pos : Pos} {wi : TI} {g : TG} {te : TE} (hc : X.calm = true) (hN : X.N.Nodup) (hi : PI X tg iter wi) (ok : BlkOk X.N X.env.scope scope own)
    (hg : ∀ (s : Shared) (H : Hp) (C : Addr) (cl : List (PySem.Str × Addr)) (fp : List Addr), PG (X.blk s H scope (compEnvC scope cl C X.env) fp) tg g)
    (he : ∀ (s : Shared) (H : Hp) (C : Addr) (cl : List (PySem.Str × Addr)) (fp : List Addr), PE (X.blk s H scope (compEnvC scope cl C X.env) fp) elt te)
    (hs : ∀ x, foldedSetIterable iter X.env x = pure x := by intro _; rfl) : PE X (.SetComp elt [⟨tg, iter, [], 0⟩] scope pos) (tNm X.w wi g te (own.map (·.2))) := by
  refine ⟨fun pins s σ H Q I h => ?_⟩
  rw [PpSet.eval_SetComp]
  have closed : ∀ y ∈ scope.names, y.2 = .free → ∃ c, X.env.cells.lookup y.1 = some c := fun y hy e => (ok.free y hy e).elim (fun k => I.ok.has _ (.inl k)) fun k => I.ok.has _ (.inr k)
  refine wpAny_comprehension_free (use := none) rfl hs (closure_ok closed) ok.kind (fun y hy e => by rw [ok.uniq y hy, e]) (thn (hi.run pins s σ H _ I h) fun xv s1 hx => thn hx fun itv s2 h2 => ?_)
  obtain ⟨it, fp, tn, J, H2, e, I2, T, st2, f2, q⟩ := h2
  subst e
  refine PpSet.newSet_ok (newEnv_comp ?_)
  generalize hD : s2.heap.objs.size = D
  have hDn : H2 D = none := I2.hok.fresh (Nat.le_of_eq hD)
  obtain ⟨W, ⟨m0, w0⟩, turn⟩ := q D hDn
  generalize hs3 : ({ s2 with heap := s2.heap.push (setObj X) } : Shared) = s3
  have h3 : s3.heap = s2.heap.push (setObj X) := by rw [← hs3]
  generalize hH3 : upd H2 D (TxO X.w D []) = H3 at w0
  have I3 : Inv X pins σ H3 s3 := by
    rw [← hs3, ← hH3]
    refine I2.laid (t' := s2.toks) (fun b o e => Heap.get?_push_of_some _ e) (Nat.le_of_eq hD) ?_
    rw [← hD]
    exact txO_new (has_fresh X.w)
  have below : ∀ b ∈ fp, b < s2.heap.objs.size := fun b hb => by
    obtain ⟨o, e, _⟩ := T.obj _ _ st2 b hb
    exact Heap.lt_size e
  have f3 : ∀ b ∈ fp, FpOk X pins H3 b ∧ b < s3.heap.objs.size := fun b hb => by
    have lt := below b hb
    have ne : b ≠ D := by rw [← hD]; exact Nat.ne_of_lt lt
    refine ⟨⟨?_, (f2 b hb).2⟩, by rw [h3, Heap.size_push]; exact Nat.lt_succ_of_lt lt⟩
    rw [← hH3, upd_ne ne]
    exact (f2 b hb).1
  have st3 : tn 0 s3.heap := T.keep _ _ _ st2 fun b _ o e => by rw [h3]; exact Heap.get?_push_of_some _ e
  have I4 := block_start I3 ok hN f3
  generalize hcl : cellsFrom (s3.heap.objs.size + 1) scope.names (cloFrom X.env.cells scope.names []) = cl at I4
  have pg := hg s3 H3 s3.heap.objs.size cl fp
  have pe := he s3 H3 s3.heap.objs.size cl fp
  have goal : codeAny (model X.prog X.w) X.A (.compStart (.SetComp elt [⟨tg, iter, [], 0⟩] scope pos) 0 (.ref it) (.ref D) (compEnvC scope cl s3.heap.objs.size X.env))
      (compPost (model X.prog X.w) X.A X.xe none (EP X pins σ Q) (.ref D) s3.heap.objs.size) { s3 with heap := pushCells (s3.heap.push { cls := .type "dict", data := .dict #[] }) scope.names } := by
    have free3 : ∀ b ∈ fp, H3 b = none := fun b hb => (f3 b hb).1.1
    generalize hce : compEnvC scope cl s3.heap.objs.size X.env = ce at I4 pg pe ⊢
    have locals : ce.locals = s3.heap.objs.size := by subst hce; rfl
    generalize hs4 : ({ s3 with heap := pushCells (s3.heap.push { cls := .type "dict", data := .dict #[] }) scope.names } : Shared) = s4 at I4 ⊢
    have st4 : tn 0 s4.heap := T.keep _ _ _ st3 fun b _ o e => by rw [← hs4]; exact pushCells_keeps _ _ _ _ (Heap.get?_push_of_some _ e)
    have stat : ∀ {σ' : L2.St} {H' : Hp} {s' : Shared}, Inv (X.blk s3 H3 scope ce fp) [] σ' H' s' → (∀ b ∈ fp, H' b = none) → ∀ b ∈ fp, FpOk (X.blk s3 H3 scope ce fp) [] H' b := fun {σ' H' s'} I' hn b hb =>
      ⟨hn b hb, (I'.ok.exf b hb).1, I'.ok.exfs b hb, .inl hb, fun x c e => (I'.ok.exf b hb).2 x c e, fun p hp => absurd (show p ∈ ([] : List (Addr × Obj)) ++ [] from hp) (by simp)⟩
    have loop : codeAny (model X.prog X.w) X.A (.compLoop (.SetComp elt [⟨tg, iter, [], 0⟩] scope pos) 0 (.ref it) (.ref D) ce) (compPost (model X.prog X.w) X.A X.xe none (EP X pins σ Q) (.ref D) s3.heap.objs.size) s4 := by
      refine PpSet.compLoopS_any (fun n s' => ∃ i H', Inv (X.blk s3 H3 scope ce fp) [] (wipe σ (own.map (·.2))) H' s' ∧ tn i s'.heap ∧ (∀ b ∈ fp, H' b = none) ∧ W i n H') ?_ m0 ⟨0, H3, I4, st4, free3, w0⟩
      rintro n s5 ⟨i, H5, I5, st5, n5, w5⟩
      rcases turn i n H5 w5 with ⟨stop, qq⟩ | ⟨go, Nx, hNx, step⟩
      · refine thnF (T.done (X.blk s3 H3 scope ce fp) rfl rfl rfl hc i [] s5 _ H5 (fun _ _ => False) I5 (stat I5 n5) st5 stop) fun r s6 ⟨hr, I6⟩ => ?_
        subst hr
        have I7 : Inv X pins σ H5 s6 := I3.call' (ch := fp) I6.os I6.base I6.hok I6.bare fun b hb => by
          have z := (f3 b hb).1
          exact ⟨z.2.2.2.1, z.2.1, z.2.2.2.2.1, z.2.2.2.2.2⟩
        have nC : H5 s3.heap.objs.size = none := by
          rw [← locals]
          exact I6.free
        obtain ⟨m, hn, _⟩ := I6.loc
        have hn' : s6.heap.Ns s3.heap.objs.size m := by
          rw [← locals]
          exact hn
        refine ⟨m, hn', fun h'' sb => ?_⟩
        obtain ⟨z0, z1, z2, z3, z4, z5⟩ := I3.fpOk (Nat.le_refl _) nC
        exact ⟨.ref D, H5, I7.turned (t' := s6.toks) (fun b o hb e => (sb.2 b hb).trans e) z0 z1 z3 z4 z5, rfl, qq⟩
      · refine thnF (T.item (X.blk s3 H3 scope ce fp) rfl rfl rfl hc i [] s5 _ H5 (fun _ _ => False) I5 (stat I5 n5) st5 go) fun r s6 ⟨u, hr, h6⟩ => ?_
        subst hr
        refine thnF h6 fun _ s7 ⟨x, H7, I7, r7, y7, st7, n7⟩ => ?_
        have I7' := I7.pinned (stat I7 n7) (T.obj _ _ st7)
        refine thnF (pg.run _ s7 _ H7 x u _ I7' r7 (step x H7 y7)) fun _ s8 ⟨σ8, H8, I8, hw8, q8⟩ => ?_
        refine wpAny_pure ?_
        rw [if_pos rfl]
        refine thnF (pe.run _ s8 σ8 H8 _ I8 q8) fun z s10 ⟨yv, H10, I10, r10, c, ks, ey, hD10, room, nx⟩ => ?_
        subst ey
        obtain ⟨tk, ez⟩ := (show ∃ t, z = Value.str c t from r10)
        subst ez
        refine add_ok (X := X.blk s3 H3 scope ce fp) I10 hD10 room fun s11 I11 => ?_
        obtain ⟨m', hm, w'⟩ := hNx _ nx
        have pin' : ∀ b ∈ fp, ∀ o, s7.heap.get? b = some o → s11.heap.get? b = some o ∧ upd H10 D (TxO (X.blk s3 H3 scope ce fp).w D (plus ks c)) b = none := fun b hb o e =>
          let z := I11.pin (b, o) (List.mem_append_right _ (List.mem_append_right _ (mem_pinsAt hb e)))
          ⟨z.1, z.2.1⟩
        have len : (wipe σ (own.map (·.2))).length = σ8.length := by rw [← hw8, wipe_length]
        refine ⟨m', hm, i + 1, _, (I11.unpinned (pins := [])).weak len (fun j v e => ?_), T.keep _ _ _ st7 fun b hb o e => (pin' b hb o e).1, fun b hb => ?_, w'⟩
        · rw [← hw8] at e
          exact (wipe_some e).1
        · obtain ⟨o, e, _⟩ := T.obj _ _ st7 b hb
          exact (pin' b hb o e).2
    exact PpSet.codeAny_compStart_set loop (T.self X.A 0 _ _ _ st4 loop)
  exact goal
/-- over a tuple that stands still -/
theorem nm_tup {w : World} {K : PySem.W.Frag} {a : Addr} {xs : List V} {g : TG} {te : TE} {vs : List Nat} {σ : L2.St} {H1 : Hp} {D : Addr} {Qd : Hp → Prop} (Pv : Nat → Hp → Prop) (h0 : Pv 0 (upd H1 D (TxO w D [])))
    (hl : ∀ i H, i ≤ xs.length → Pv i H → SqT K H a xs)
    (hs : ∀ i x H, xs[i]? = some x → Pv i H → g x (wipe σ vs) H fun σ2 H2 => wipe σ2 vs = wipe σ vs ∧ te σ2 H2 fun y H4 =>
      ∃ (c : Str) (ks : List Str), y = .str c ∧ H4 D = some (TxO w D ks) ∧ ks.length + 1 < scanBound ∧ Pv (i + 1) (upd H4 D (TxO w D (plus ks c)))) (hd : ∀ H, Pv xs.length H → Qd H) :
    ∃ W : Nat → Nat → Hp → Prop, (∃ m, W 0 m (upd H1 D (TxO w D []))) ∧ ∀ i m H, W i m H → ((Itt K a).stop i H ∧ Qd H) ∨ ((Itt K a).go i H ∧ ∃ Nx : Hp → Prop, (∀ H', Nx H' → ∃ m', m' < m ∧ W (i + 1) m' H') ∧
      ∀ x H', (Itt K a).yld i H x H' → g x (wipe σ vs) H' fun σ2 H2 => wipe σ2 vs = wipe σ vs ∧ te σ2 H2 fun y H4 =>
        ∃ (c : Str) (ks : List Str), y = .str c ∧ H4 D = some (TxO w D ks) ∧ ks.length + 1 < scanBound ∧ Nx (upd H4 D (TxO w D (plus ks c)))) := by
  refine ⟨fun i m H => m = xs.length - i ∧ i ≤ xs.length ∧ Pv i H, ⟨xs.length, by simp, Nat.zero_le _, h0⟩, ?_⟩
  rintro i m H ⟨rfl, hi, p⟩
  have q := hl i H hi p
  rcases Nat.lt_or_ge i xs.length with lt | ge
  · refine .inr ⟨⟨xs, xs[i], q, by simp [lt]⟩, Pv (i + 1), fun H' p' => ⟨xs.length - (i + 1), by omega, rfl, lt, p'⟩, fun x H' y => ?_⟩
    obtain ⟨e, y⟩ := y
    subst e
    exact hs i x _ (y xs q) p
  · have e : i = xs.length := by omega
    subst e
    exact .inl ⟨⟨xs, q, Nat.le_refl _⟩, hd H p⟩
end
end Nm
namespace NmD
open PySem PySem.Spec PyProof.Rows L2 PySem.W PySem.SeqAt
mutual
/-- no list and no dict in it -/
def pureD : PyData → Bool
  | .none => true
  | .bool _ => true
  | .int _ => true
  | .str _ => true
  | .list _ => false
  | .tuple xs => pureAll xs
  | .dict _ => false
def pureAll : List PyData → Bool
  | [] => true
  | x :: xs => pureD x && pureAll xs
end
def Tups (h h' : Heap) : Prop := ∀ b o, h.get? b = some o → o.cls = .type "tuple" → h'.get? b = some o
mutual
theorem reads_keep {h h' : Heap} (kp : Tups h h') : ∀ (d : PyData) (v : Value) (as : List Addr), pureD d = true → Reads h v d as → ∃ bs, Reads h' v d bs
  | .none, _, _, _, r => by
    cases r
    exact ⟨_, .none⟩
  | .bool b, _, _, _, r => by
    cases r
    exact ⟨_, .bool b⟩
  | .int i, _, _, _, r => by
    cases r
    exact ⟨_, .int i _⟩
  | .str x, _, _, _, r => by
    cases r
    exact ⟨_, .str x _⟩
  | .list xs, _, _, p, _ => by
    unfold pureD at p
    cases p
  | .dict xs, _, _, p, _ => by
    unfold pureD at p
    cases p
  | .tuple xs, _, _, p, r => by
    cases r with
    | tuple h1 h2 h3 h4 =>
      obtain ⟨bs, q⟩ := reads_keepA kp xs _ _ (by unfold pureD at p; exact p) h4
      exact ⟨bs, .tuple (kp _ _ h1 h2) h2 h3 q⟩
theorem reads_keepA {h h' : Heap} (kp : Tups h h') : ∀ (ds : List PyData) (vs : List Value) (as : List Addr), pureAll ds = true → ReadsAll h vs ds as → ∃ bs, ReadsAll h' vs ds bs
  | [], _, _, _, r => by
    cases r
    exact ⟨_, .nil⟩
  | d :: ds, _, _, p, r => by
    cases r with
    | cons r1 r2 =>
      unfold pureAll at p
      rw [Bool.and_eq_true] at p
      obtain ⟨b1, q1⟩ := reads_keep kp d _ _ p.1 r1
      obtain ⟨b2, q2⟩ := reads_keepA kp ds _ _ p.2 r2
      exact ⟨_, .cons q1 q2⟩
end
/-- the first item of each -/
def Firsts (h : Heap) : List Value → List (Option Value) → Prop
  | [], [] => True
  | v :: vs, f :: fs => (∃ a o xs n, v = .ref a ∧ h.get? a = some o ∧ o.cls = .type "tuple" ∧ o.data = .seq xs n ∧ xs[0]? = f) ∧ Firsts h vs fs
  | _, _ => False
section
variable {M : Model} {A : Around} {E : Value → Shared → Prop} {s : Shared}
theorem firsts_run : ∀ (vs : List Value) (fs : List (Option Value)) {Q : List (Option Value) → Shared → Prop}, Firsts s.heap vs fs → Q fs s → wpAny M A (vs.mapM firstOfTuple') Q E s
  | [], [], _, _, h => by rw [List.mapM_nil]; exact wpAny_pure h
  | [], _ :: _, _, t, _ => t.elim
  | _ :: _, [], _, t, _ => t.elim
  | v :: vs, f :: fs, Q, t, h => by
    obtain ⟨⟨a, o, xs, n, rfl, ho, hc, hd, hf⟩, t⟩ := t
    rw [List.mapM_cons]
    refine wpAny_bind ?_
    rw [kas_first_eq]
    refine wpAny_bind (Looks.here (show Looks M s.heap (typeOf (.ref a)) o.cls from (Looks.ld ho).andThen .now) ?_)
    rw [hc, if_neg (by first | decide | simp)]
    refine wpAny_bind (listItems_at ho hd (wpAny_pure ?_))
    rw [hf]
    exact wpAny_bind (firsts_run vs fs (Q := fun bs s' => wpAny M A (pure (f :: bs)) Q E s') t (wpAny_pure h))
theorem firsts_typ : ∀ {vs : List Value} {fs : List (Option Value)}, Firsts s.heap vs fs → ∀ v ∈ vs, Looks M s.heap (typeOf v) (.type "tuple")
  | [], _, _, v, hv => absurd hv (List.not_mem_nil)
  | _ :: _, [], t, _, _ => t.elim
  | u :: us, f :: fs, t, v, hv => by
    obtain ⟨⟨a, o, xs, n, rfl, ho, hc, hd, hf⟩, t⟩ := t
    rcases List.mem_cons.mp hv with rfl | hv
    · have L : Looks M s.heap (typeOf (.ref a)) o.cls := (Looks.ld ho).andThen .now
      rw [hc] at L
      exact L
    · exact firsts_typ t v hv
/-- an empty one among them -/
theorem kind_mix {vs : List Value} {fs : List (Option Value)} {Q : SortKind → Shared → Prop} (t : Firsts s.heap vs fs) (hn : (fs.toArray.all fun x => x.isSome) = false) (h : ∀ κ, κ = general' ∨ κ = oneType' → Q κ s) :
    wpAny M A (keyKind' vs.toArray) Q E s := by
  rw [kat_kind_eq, List.mapM_toArray, map_eq_pure_bind]
  refine wpAny_bind (wpAny_bind (firsts_run vs _ t (wpAny_pure ?_)))
  rw [if_neg (by rw [hn]; exact Bool.false_ne_true)]
  refine wpAny_ite ?_
  split
  · exact wpAny_pure (h _ (.inl rfl))
  · rw [oneTypeOnly'_eq, List.mapM_toArray, map_eq_pure_bind]
    refine wpAny_bind (wpAny_bind (wpAny_bind (kas_mapM (r := Value.type "tuple") _ (fun v hv Q' hq => (firsts_typ t v hv).here hq) (wpAny_pure ?_))))
    split
    · split
      · exact wpAny_pure (wpAny_pure (h _ (.inr rfl)))
      · exact wpAny_pure (wpAny_pure (h _ (.inl rfl)))
    · exact wpAny_pure (wpAny_pure (h _ (.inl rfl)))
theorem kat_of : ∀ {vs : List Value} {fs : List (Option Value)}, Firsts s.heap vs fs → (fs.toArray.all fun x => x.isSome) = true → ∃ gs, fs = gs.map some ∧ KatTups s.heap vs gs
  | [], [], _, _ => ⟨[], rfl, KatTups.nil⟩
  | [], _ :: _, t, _ => t.elim
  | _ :: _, [], t, _ => t.elim
  | v :: vs, f :: fs, t, e => by
    obtain ⟨⟨a, o, xs, n, rfl, ho, hc, hd, hf⟩, t⟩ := t
    have e' : f.isSome = true ∧ (fs.all fun x => x.isSome) = true := by simpa using e
    obtain ⟨gs, rfl, kt⟩ := kat_of t (by simpa using e'.2)
    obtain ⟨g, rfl⟩ := Option.isSome_iff_exists.mp e'.1
    exact ⟨g :: gs, rfl, ⟨a, o, xs, n, rfl, ho, hc, hd, hf⟩, kt⟩
end
def tyD : PyData → String
  | .int _ => "int"
  | .str _ => "str"
  | .tuple _ => "tuple"
  | .bool _ => "bool"
  | .none => "NoneType"
  | .list _ => "list"
  | .dict _ => "dict"
section
variable {prog : Program} {w : World} {A : Around} {E : Value → Shared → Prop} {s : Shared}
theorem look_ty {M : Model} {h : Heap} {z : PyData} {v : Value} {as : List Addr} (p : pureD z = true) (r : Reads h v z as) : Looks M h (typeOf v) (.type (tyD z)) := by
  cases r with
  | none => exact Looks.now
  | bool b => exact Looks.now
  | int i t => exact Looks.now
  | str x t => exact Looks.now
  | list _ _ _ _ =>
    unfold pureD at p
    cases p
  | dict _ _ _ _ _ =>
    unfold pureD at p
    cases p
  | @tuple a o vs n xs as h1 h2 h3 h4 =>
    have L : Looks M h (typeOf (.ref a)) o.cls := (Looks.ld h1).andThen .now
    rw [h2] at L
    exact L
theorem alike_ty {x y : PyData} (h : alike x y = true) : tyD x = tyD y := by
  cases x <;> cases y <;> first | rfl | exact absurd h (by simp [alike])
/-- what is known of the items: tuples, as k tells, of such data, any two of them alike -/
structure Rows (h : Heap) (vs : List Value) (k : Value → List PyData) : Prop where
  rd : ∀ v ∈ vs, ∃ as, Reads h v (.tuple (k v)) as
  pu : ∀ v ∈ vs, pureAll (k v) = true
  al : ∀ v ∈ vs, ∀ u ∈ vs, alikeAll (k v) (k u) = true
  dp : ∀ v ∈ vs, PyData.depthAll (k v) ≤ 40
abbrev ltD (k : Value → List PyData) (v u : Value) : Bool := PyProof.Rows.lexLt itemOrd (keyToksAll (k v)) (keyToksAll (k u))
theorem ltD_swo (k : Value → List PyData) : SrtO.Swo (ltD k) := by
  refine ⟨fun x y h => ?_, fun x y z h1 h2 => ?_⟩
  · cases e : ltD k y x with
    | false => rfl
    | true =>
      have z := (listOrd itemOrd).trans _ _ _ h e
      rw [(listOrd itemOrd).irrefl] at z
      cases z
  · cases e : ltD k z x with
    | false => rfl
    | true =>
      rcases (listOrd itemOrd).negTrans _ (keyToksAll (k y)) _ e with q | q
      · rw [show ltD k z y = true from q] at h2
        cases h2
      · rw [show ltD k y x = true from q] at h1
        cases h1
theorem Rows.keep {h h' : Heap} {vs : List Value} {k : Value → List PyData} (R : Rows h vs k) (kp : Tups h h') : Rows h' vs k :=
  ⟨fun v hv => by
    obtain ⟨as, r⟩ := R.rd v hv
    exact reads_keep kp _ _ _ (by unfold pureD; exact R.pu v hv) r, R.pu, R.al, R.dp⟩
theorem rows_firsts {h : Heap} : ∀ {vs : List Value} {k : Value → List PyData}, Rows h vs k → ∃ fs, Firsts h vs fs ∧ ∀ f ∈ fs, ∀ g, f = some g → ∃ v ∈ vs, ∃ z r as, k v = z :: r ∧ Reads h g z as
  | [], _, _ => ⟨[], trivial, fun f hf => absurd hf (List.not_mem_nil)⟩
  | v :: vs, k, R => by
    obtain ⟨fs, t, q⟩ := rows_firsts (vs := vs) (k := k) ⟨fun u hu => R.rd u (List.mem_cons_of_mem _ hu), fun u hu => R.pu u (List.mem_cons_of_mem _ hu), fun u hu x hx => R.al u (List.mem_cons_of_mem _ hu) x (List.mem_cons_of_mem _ hx), fun u hu => R.dp u (List.mem_cons_of_mem _ hu)⟩
    obtain ⟨as, r⟩ := R.rd v List.mem_cons_self
    generalize hd : k v = d at r
    cases r with
    | @tuple a o xs n ds as h1 h2 h3 h4 =>
      refine ⟨xs[0]? :: fs, ⟨⟨a, o, xs, n, rfl, h1, h2, h3, rfl⟩, t⟩, fun f hf g e => ?_⟩
      rcases List.mem_cons.mp hf with rfl | hf
      · obtain ⟨xl⟩ := xs
        cases h4 with
        | nil => simp at e
        | @cons v0 vs0 d0 ds0 a0 b0 r1 r2 =>
          have e' : v0 = g := by simpa using e
          subst e'
          exact ⟨.ref a, List.mem_cons_self, _, _, _, hd, r1⟩
      · obtain ⟨u, hu, z⟩ := q f hf g e
        exact ⟨u, List.mem_cons_of_mem _ hu, z⟩
theorem call_tuple_lt {Q : Value → Shared → Prop} {l b : Addr} {items items2 : Array Value} {e r : Nat → Bool} (hl : s.heap.IsTuple l items) (hb : s.heap.IsTuple b items2)
    (he : ∀ j (h1 : j < items.size) (h2 : j < items2.size), EqAt A.in1 s items[j] items2[j] (e j)) (hr : ∀ j (h1 : j < items.size) (h2 : j < items2.size), e j = false → RcLt A.in1 s items[j] items2[j] (r j))
    (h : Q (.bool (firstLt e r (decide (items.size < items2.size)) (List.range (min items.size items2.size)))) s) : wpAny (model prog w) A (call (.builtin "tuple.__lt__") [.ref l, .ref b]) Q E s := by
  obtain ⟨⟨cls, dd, data, sl⟩, ho, hc, n, hd⟩ := id hl
  obtain ⟨⟨cls2, dd2, data2, sl2⟩, ho2, hc2, n2, hd2⟩ := id hb
  simp only at hc hd hc2 hd2
  subst hc hd hc2 hd2
  exact call_meets F.slot_tuple_lt ⟨_, ho, rfl⟩ F.entry_tuple_lt (F.args_tuple_lt_2 _ _) (PySem.SeqAt.tuple_ltAt l b items items2 n n2 dd dd2 sl sl2 e r) ⟨ho, ho2, he, hr, h⟩
theorem one_tup {xs ys : List PyData} {a b : Value} {as bs : List Addr} {Q : Bool → Shared → Prop} (f : Bool) (ra : Reads s.heap a (.tuple xs) as) (rb : Reads s.heap b (.tuple ys) bs) (hal : alikeAll xs ys = true)
    (hu : A.units + min (PyData.tuple xs).depth (PyData.tuple ys).depth < cLine) (hq : Q (PyProof.Rows.lexLt itemOrd (keyToksAll xs) (keyToksAll ys)) s) : wpAny (model prog w) A (oneLt' f a b) Q E s := by
  cases f with
  | false => exact oneLt_alike (fun z => absurd z Bool.false_ne_true) ra rb (by simpa [alike] using hal) (fun z => nomatch z) hu (by rw [dataLt_tuple]; exact hq)
  | true =>
    cases ra with
    | @tuple l o vs n _ as₁ h1 h2 h3 h4 =>
      cases rb with
      | @tuple l' o' vs' n' _ bs₁ k1 k2 k3 k4 =>
        have n1 : vs.size = xs.length := by simpa using ReadsAll.length _ _ _ h4
        have n2 : vs'.size = ys.length := by simpa using ReadsAll.length _ _ _ k4
        rw [← firstLt_toks xs ys hal, ← n1, ← n2] at hq
        rw [oneLt'_eq]
        simp only [if_true]
        refine wpAny_bind (wpAny_cRoomFor (room_here hu) ?_)
        refine wpAny_bind (wpAny_callSpecialIfBound?_slot (T := "tuple") ⟨_, h1, h2⟩ F.slot_tuple_lt (call_tuple_lt (e := pairEq xs ys) (r := fun j => dataLt (xs.getD j .none) (ys.getD j .none)) ⟨_, h1, h2, _, h3⟩ ⟨_, k1, k2, _, k3⟩ (fun j j1 j2 => ?_) (fun j j1 j2 hj => ?_) ?_))
        · have := eqAt_alikeAll xs ys A.in1 s vs.toList vs'.toList _ _ h4 k4 hal (room_in hu) j (by simpa using j1) (by simpa using j2)
          simpa using this
        · have := rcLt_alikeAll xs ys A.in1 s vs.toList vs'.toList _ _ h4 k4 hal (room_in hu) j (by simpa using j1) (by simpa using j2) hj
          simpa using this
        · exact wpAny_truthy_bool hq
theorem dep (xs ys : List PyData) (h : PyData.depthAll xs ≤ 40) : min (PyData.tuple xs).depth (PyData.tuple ys).depth ≤ 41 := by
  have e : (PyData.tuple xs).depth = PyData.depthAll xs + 1 := by first | rfl | simp [PyData.depth]
  omega
theorem cmp_rows {vs : List Value} {k : Value → List PyData} {κ : SortKind} (R : Rows s.heap vs k) (hu : A.units + 64 < cLine) (hk : κ = general' ∨ κ = oneType' ∨ ∃ b, κ = tuples' b ∧ (b = true → ∀ v ∈ vs, ∀ z r t, k v = z :: r → z ≠ .tuple t)) :
    SrtO.Cmp prog w A s κ (fun p => p.1 ∈ vs) (SrtO.lt2 (ltD k)) := by
  intro p q hp hq
  obtain ⟨as, ra⟩ := R.rd _ hp
  obtain ⟨bs, rb⟩ := R.rd _ hq
  have al := R.al _ hp _ hq
  have d := dep (k p.1) (k q.1) (R.dp _ hp)
  rcases hk with rfl | rfl | ⟨b, rfl, hb⟩
  · exact one_tup false ra rb al (by omega) ⟨rfl, rfl⟩
  · exact one_tup true ra rb al (by omega) ⟨rfl, rfl⟩
  · have hf := hb
    generalize hx : k p.1 = xs at ra
    generalize hy : k q.1 = ys at rb
    have dx := R.dp _ hp
    have dl : ltD k p.1 q.1 = PyProof.Rows.lexLt itemOrd (keyToksAll xs) (keyToksAll ys) := by rw [← hx, ← hy]
    rw [hx] at dx al
    rw [hy] at al
    show wpAny (model prog w) A (keyLt' (tuples' b) p.1 q.1) (fun r s' => s' = s ∧ r = ltD k p.1 q.1) (fun _ _ => False) s
    rw [dl]
    have hfp := fun (z : b = true) => hf z p.1 hp
    generalize p.1 = pv at ra hfp hx
    generalize q.1 = qv at rb hy
    cases ra with
    | @tuple l o vs n _ as₁ h1 h2 h3 h4 =>
      cases rb with
      | @tuple l' o' vs' n' _ bs₁ k1 k2 k3 k4 =>
        have n1 : vs.size = xs.length := by simpa using ReadsAll.length _ _ _ h4
        have n2 : vs'.size = ys.length := by simpa using ReadsAll.length _ _ _ k4
        refine kat_lt h1 h3 k1 k3 ?_
        refine katLex_alike xs ys 0 _ _ _ _ h4 k4 al (by omega) (fun z _ x r t e => hfp z x r t (by rw [hx, e])) (by rw [n1, n2]) ⟨rfl, rfl⟩
theorem rows_sortable {a : Addr} {vs : List Value} {k : Value → List PyData} (R : Rows s.heap vs k) (hu : A.units + 64 < cLine) (h0 : 0 < vs.length) (ha : ∀ o, s.heap.get? a = some o → o.cls ≠ .type "tuple") : SrtO.SortableO prog w A s a vs (ltD k) := by
  intro h' keep
  have R' : Rows h' vs k := R.keep fun b o e c => keep b o (fun z => by subst z; exact ha o e c) e
  obtain ⟨fs, t, q⟩ := rows_firsts R'
  cases e : (fs.toArray.all fun x => x.isSome) with
  | false =>
    have hne : ∃ κ, (κ = general' ∨ κ = oneType') ∧ ∀ (Q : SortKind → Shared → Prop) (E : Value → Shared → Prop), Q κ { s with heap := h' } → wpAny (model prog w) A (keyKind' vs.toArray) Q E { s with heap := h' } := by
      by_cases c : (fs.toArray[0]?.bind id).isSome = true
      · refine ⟨general', .inl rfl, fun Q E hq => ?_⟩
        rw [kat_kind_eq, List.mapM_toArray, map_eq_pure_bind]
        refine wpAny_bind (wpAny_bind (firsts_run vs _ t (wpAny_pure ?_)))
        rw [if_neg (by rw [e]; exact Bool.false_ne_true), if_pos c]
        exact wpAny_pure hq
      · refine ⟨oneType', .inr rfl, fun Q E hq => ?_⟩
        rw [kat_kind_eq, List.mapM_toArray, map_eq_pure_bind]
        refine wpAny_bind (wpAny_bind (firsts_run vs _ t (wpAny_pure ?_)))
        rw [if_neg (by rw [e]; exact Bool.false_ne_true), if_neg c]
        rw [oneTypeOnly'_eq, List.mapM_toArray, map_eq_pure_bind]
        refine wpAny_bind (wpAny_bind (wpAny_bind (kas_mapM (r := Value.type "tuple") _ (fun v hv Q' hq => (firsts_typ (s := { s with heap := h' }) t v hv).here hq) (wpAny_pure ?_))))
        obtain ⟨v1, vr, rfl⟩ : ∃ v1 vr, vs = v1 :: vr := by
          match vs, h0 with
          | v1 :: vr, _ => exact ⟨v1, vr, rfl⟩
        have hall : ((List.map (fun _ => Value.type "tuple") (v1 :: vr)).toArray.all fun x => x == Value.type "tuple") = true := by
          simp only [List.all_toArray, List.all_map, List.all_eq_true]
          intro _ _
          exact (by rfl : (Value.type "tuple" == Value.type "tuple") = true)
        have hz : (List.map (fun _ => Value.type "tuple") (v1 :: vr)).toArray[0]? = some (Value.type "tuple") := by simp
        rw [hz]
        simp only [hall, if_true]
        exact wpAny_pure (wpAny_pure hq)
    obtain ⟨κ, hκ, run⟩ := hne
    exact ⟨κ, run, cmp_rows (s := { s with heap := h' }) R' hu (by rcases hκ with z | z; exact .inl z; exact .inr (.inl z))⟩
  | true =>
    obtain ⟨gs, rfl, kt⟩ := kat_of (s := { s with heap := h' }) t e
    have lg : gs.length = vs.length := by
      have l : ∀ {us : List Value} {gs : List Value}, KatTups h' us gs → gs.length = us.length := by
        intro us
        induction us with
        | nil =>
          intro gs t
          cases gs with
          | nil => rfl
          | cons _ _ => exact t.elim
        | cons u us ih =>
          intro gs t
          cases gs with
          | nil => exact t.elim
          | cons g gs => rw [List.length_cons, List.length_cons, ih t.2]
      exact l kt
    obtain ⟨g1, gr, rfl⟩ : ∃ g1 gr, gs = g1 :: gr := by
      match gs, (show 0 < gs.length by omega) with
      | g1 :: gr, _ => exact ⟨g1, gr, rfl⟩
    obtain ⟨v1, hv1, z1, r1, as1, e1, rd1⟩ := q (some g1) (by simp) g1 rfl
    have same : ∀ v ∈ vs, ∀ z r, k v = z :: r → tyD z = tyD z1 := fun v hv z r ez => by
      have a := R.al v hv v1 hv1
      rw [ez, e1] at a
      exact alike_ty (alike_all_cons a).1
    refine ⟨tuples' (Value.type (tyD z1) != Value.type "tuple"), fun Q E hq => ?_, cmp_rows (s := { s with heap := h' }) R' hu (.inr (.inr ⟨_, rfl, fun hb v hv z r t ez c => ?_⟩))⟩
    · refine kat_kind (T := .type (tyD z1)) kt (by simp) (fun f hf => ?_) (by simp) hq
      obtain ⟨v, hv, z, r, as, ez, rz⟩ := q (some f) (List.mem_map.mpr ⟨f, hf, rfl⟩) f rfl
      rw [← same v hv z r ez]
      refine look_ty ?_ rz
      have p := R.pu v hv
      rw [ez] at p
      unfold pureAll at p
      exact (Bool.and_eq_true _ _ ▸ p).1
    · have w := same v hv z r ez
      rw [c] at w
      rw [← w] at hb
      exact absurd hb (show ¬ ((Value.type "tuple" != Value.type "tuple") = true) by decide)
end
/-- x before y, as Python orders these tuples -/
abbrev ltV (k : V → List PyData) (x y : V) : Bool := PyProof.Rows.lexLt itemOrd (keyToksAll (k x)) (keyToksAll (k y))
theorem ltV_swo (k : V → List PyData) : SrtO.Swo (ltV k) := by
  refine ⟨fun x y h => ?_, fun x y z h1 h2 => ?_⟩
  · cases e : ltV k y x with
    | false => rfl
    | true =>
      have z := (listOrd itemOrd).trans _ _ _ h e
      rw [(listOrd itemOrd).irrefl] at z
      cases z
  · cases e : ltV k z x with
    | false => rfl
    | true =>
      rcases (listOrd itemOrd).negTrans _ (keyToksAll (k y)) _ e with q | q
      · rw [show ltV k z y = true from q] at h2
        cases h2
      · rw [show ltV k y x = true from q] at h1
        cases h1
/-- sorted(xs), xs a list of tuples (k tells them) of numbers, texts, tuples of these, any two of them alike: a new list, sorted, equal ones in their order -/
def rSortD (K : PySem.W.Frag) : List V → Hp → VK → Prop := fun vs H Q => ∃ (a : Addr) (xs : List V) (k : V → List PyData), vs = [V.ref a] ∧ SqL K H a xs ∧ (∀ x ∈ xs, (∃ t, x = V.ref t) ∧ Dp K H x (.tuple (k x)) ∧ pureAll (k x) = true ∧ PyData.depthAll (k x) ≤ 40) ∧
  (∀ x ∈ xs, ∀ y ∈ xs, alikeAll (k x) (k y) = true) ∧ ∀ ys p, SrtO.Srtd (ltV k) ys → SrtO.Stb (ltV k) ys xs → H p = none → Q (.ref p) (upd H p (.lst ys))
section
variable {X : Cx}
theorem cr_sortD (hu : X.A.units + 66 < cLine) : CallR X (.builtin "sorted") (rSortD X.K) := by
  intro pins s σ H vs us Q I r h
  obtain ⟨a, xs, k, rfl, hs, hx, al, q⟩ := h
  obtain ⟨its, rv, hl, hz⟩ := I.list hs
  obtain ⟨u, rfl, ru⟩ := vals1 r
  obtain rfl : u = Value.ref a := ru
  obtain ⟨e1, e2⟩ := refs_back rv fun x m => (hx x m).1
  have back : ∀ v ∈ its, backV v ∈ xs := fun v hv => by
    rw [e1]
    exact List.mem_map.mpr ⟨_, hv, rfl⟩
  have R : Rows s.heap its (fun u => k (backV u)) := ⟨fun v hv => by
      obtain ⟨t, rfl⟩ := e2 v hv
      exact Dp.reads I _ (backV (.ref t)) (.ref t) (hx _ (back _ hv)).2.1 rfl, fun v hv => (hx _ (back v hv)).2.2.1, fun v hv u hu => al _ (back v hv) _ (back u hu), fun v hv => (hx _ (back v hv)).2.2.2⟩
  refine SrtO.sorted_ord (ltv := ltD fun u => k (backV u)) (ltD_swo _) hl.isList (by rw [← rv.length]; exact hz) (fun h2 h₁ b hb kk => ?_) fun out h1 h2 => ?_
  · refine rows_sortable (s := { s with heap := h₁ }) (R.keep fun c o e _ => (kk c o e).2) (by show X.A.units + 1 + 1 + 64 < cLine; omega) (by omega) fun o e => ?_
    have e' : some o = some (seqObj "list" its.toArray 0) := e.symm.trans hb
    cases e'
    intro c
    exact absurd (Value.type.inj c) (by decide)
  · have h3 : ∀ u ∈ out, ∃ a, u = Value.ref a := fun u hu => e2 u (h2.perm.mem_iff.mp hu)
    obtain ⟨n, hn⟩ := PyProof.Rows.sortedAll_at s.heap its out.toArray
    have hb : SrtO.Stb (ltV k) (out.map backV) xs := by
      rw [e1]
      exact SrtO.Stb.map (ltV_swo k) backV h2
    refine ⟨.ref (s.heap.objs.size + 1), upd H (s.heap.objs.size + 1) (.lst (out.map backV)), I.laid (t' := s.toks) (fun b o e => PyProof.Rows.sortedAll_old e) (Nat.le_succ _) ⟨?_, out, n, vals_back h3, hn⟩, rfl, q _ _ (SrtO.srtd_map h1) hb (I.hok.fresh (Nat.le_succ _))⟩
    rw [hb.len]
    exact hz
end
end NmD
namespace Nm
open PySem PySem.Spec PyProof.Rows L2 NmD
/-! ### rows of words as data -/
abbrev rowL (ws : List Str) : List PyData := ws.map PyData.str
theorem rowL_nil : rowL [] = [] := rfl
theorem rowL_cons (w : Str) (ws : List Str) : rowL (w :: ws) = PyData.str w :: rowL ws := rfl
abbrev rowD (ws : List Str) : PyData := .tuple (rowL ws)
theorem dpAll_row {K : PySem.W.Frag} {H : Hp} : ∀ ws : List Str, DpAll K H (ws.map V.str) (rowL ws)
  | [] => .nil
  | w :: ws => .cons (.str w) (dpAll_row ws)
theorem dp_row {K : PySem.W.Frag} {H : Hp} {a : Addr} {ws : List Str} (h : H a = some (.tup (ws.map V.str))) : Dp K H (.ref a) (rowD ws) := .tup (SqT.of h) (dpAll_row ws)
theorem eqv_rowL : ∀ a b : List Str, PyData.eqvAll (rowL a) (rowL b) = decide (a = b)
  | [], [] => by simp [PyData.eqvAll]
  | [], _ :: _ => by simp [PyData.eqvAll]
  | _ :: _, [] => by simp [PyData.eqvAll]
  | x :: a, y :: b => by
    have ih := eqv_rowL a b
    rw [rowL_cons, rowL_cons, PyData.eqvAll, ih, PyData.eqv]
    by_cases h : x = y
    · subst h
      simp
    · simp [h]
theorem eqv_row (a b : List Str) : PyData.eqv (rowD a) (rowD b) = decide (a = b) := by rw [PyData.eqv, eqv_rowL]
theorem depth_rowL : ∀ ws : List Str, PyData.depthAll (rowL ws) = 0
  | [] => by simp [PyData.depthAll]
  | w :: ws => by
    rw [rowL_cons, PyData.depthAll, depth_rowL ws, PyData.depth]
    rfl
theorem lay_rowL : ∀ ws : List Str, (∀ z ∈ ws, PyData.canLay0 (.str z) = true) → PyData.canLayAll0 (rowL ws) = true
  | [], _ => by simp [PyData.canLayAll0]
  | w :: ws, h => by
    rw [rowL_cons, PyData.canLayAll0, h w List.mem_cons_self, lay_rowL ws fun z hz => h z (List.mem_cons_of_mem _ hz)]
    rfl
theorem shaped_row {ws : List Str} (h : ∀ z ∈ ws, PyData.canLay0 (.str z) = true) : SeqAt.shaped (rowD ws) = true := by
  unfold SeqAt.shaped
  rw [PyData.canLay0, lay_rowL ws h, PyData.depth, depth_rowL]
  decide
theorem pure_rowL : ∀ ws : List Str, pureAll (rowL ws) = true
  | [] => by simp [pureAll]
  | w :: ws => by
    rw [rowL_cons, pureAll, pure_rowL ws, pureD]
    rfl
theorem alike_rowL : ∀ a b : List Str, PySem.W.alikeAll (rowL a) (rowL b) = true
  | [], [] => by simp [PySem.W.alikeAll]
  | [], _ :: _ => by simp [PySem.W.alikeAll]
  | _ :: _, [] => by simp [PySem.W.alikeAll]
  | x :: a, y :: b => by
    rw [rowL_cons, rowL_cons, PySem.W.alikeAll, alike_rowL a b, PySem.W.alike]
    rfl
abbrev rowLt (a b : List Str) : Bool := PyProof.Rows.lexLt itemOrd (PySem.W.keyToksAll (rowL a)) (PySem.W.keyToksAll (rowL b))
theorem row_pre : ∀ (p a b : List Str), rowLt (p ++ a) (p ++ b) = rowLt a b
  | [], a, b => rfl
  | w :: p, a, b => by
    have ih := row_pre p a b
    unfold rowLt at ih ⊢
    rw [List.cons_append, List.cons_append, rowL_cons, rowL_cons, PySem.W.toks_all_cons, PySem.W.toks_all_cons, lex_self, PySem.W.lex_pre]
    exact ih
/-- a row comes before each that begins with it -/
theorem row_more (a : List Str) (w : Str) : rowLt a (a ++ [w]) = true := by
  have h := row_pre a [] [w]
  rw [List.append_nil] at h
  rw [h]
  unfold rowLt
  rw [rowL_nil, rowL_cons, PySem.W.toks_all_cons]
  simp only [PySem.W.keyToksAll]
  rw [lex_diff (O := itemOrd) (by simp)]
  rfl
/-! ### pieces of tuples -/
theorem sl_last {K : PySem.W.Frag} {H : Hp} {a : Addr} {xs : List V} {Q : VK} (h : H a = some (.tup xs)) (q : ∀ r H', Same H H' → H' r = some (.tup xs.dropLast) → Q (.ref r) H') : rSlA K (.ref a) none (some (-1)) H Q := by
  have s1 : HT.sIx xs.length xs.length (some (-1)) = xs.length - 1 := by
    show (if (-1 : Int) < 0 then ((-1 : Int) + (xs.length : Int)).toNat else min (-1 : Int).toNat xs.length) = xs.length - 1
    rw [if_pos (by decide)]
    omega
  refine ⟨a, xs, rfl, SqT.of h, fun z => ?_, fun z p hp => ?_⟩
  · have e := z.2
    rw [s1] at e
    have : xs = [] := List.eq_nil_of_length_eq_zero (by omega)
    subst this
    exact q a H (Same.refl H) h
  · refine q p _ (same_new hp) ?_
    rw [upd_same]
    unfold cutV
    rw [s1, HT.sIx_none, List.drop_zero, Nat.sub_zero, List.dropLast_eq_take]
theorem sl_take {K : PySem.W.Frag} {H : Hp} {a : Addr} {xs : List V} {k : Nat} {Q : VK} (h : H a = some (.tup xs)) (q : ∀ r H', Same H H' → H' r = some (.tup (xs.take k)) → Q (.ref r) H') : rSlA K (.ref a) none (some (k : Int)) H Q := by
  refine ⟨a, xs, rfl, SqT.of h, fun z => ?_, fun z p hp => ?_⟩
  · have e := z.2
    rw [HT.sIx_nat] at e
    refine q a H (Same.refl H) ?_
    rw [List.take_of_length_le (by omega)]
    exact h
  · refine q p _ (same_new hp) ?_
    rw [upd_same]
    unfold cutV
    rw [HT.sIx_nat, HT.sIx_none, List.drop_zero, Nat.sub_zero]
    by_cases c : k ≤ xs.length
    · rw [Nat.min_eq_left c]
    · rw [Nat.min_eq_right (by omega), List.take_of_length_le (Nat.le_refl _), List.take_of_length_le (by omega)]
theorem cat_tups {K : PySem.W.Frag} {H : Hp} {a b : Addr} {xs ys : List V} {Q : VK} (ha : H a = some (.tup xs)) (hb : H b = some (.tup ys)) (l : xs.length + ys.length ≤ 4000) (q : ∀ r H', Same H H' → H' r = some (.tup (xs ++ ys)) → Q (.ref r) H') : rCatA K (.ref a) (.ref b) H Q := by
  have b4 : (4000 : Nat) ≤ PySem.sizeLine := by decide
  refine ⟨a, b, xs, ys, rfl, rfl, SqT.of ha, SqT.of hb, by omega, fun e => ?_, fun _ e => ?_, fun _ _ p hp => q p _ (same_new hp) upd_same⟩
  · subst e
    exact q b H (Same.refl H) hb
  · subst e
    refine q a H (Same.refl H) ?_
    rw [List.append_nil]
    exact ha
/-! ### pairs of numbers -/
abbrev Pr := Int × Int
abbrev prD (p : Pr) : PyData := .tuple [.int p.1, .int p.2]
abbrev prsD (ps : List Pr) : PyData := .list (ps.map prD)
def PrAt (H : Hp) (x : V) (p : Pr) : Prop := ∃ t, x = .ref t ∧ H t = some (.tup [.int p.1, .int p.2])
theorem PrAt.mono {H H' : Hp} (k : ∀ a xs, H a = some (.tup xs) → H' a = some (.tup xs)) {x : V} {p : Pr} (h : PrAt H x p) : PrAt H' x p := by
  obtain ⟨t, e, h1⟩ := h
  exact ⟨t, e, k _ _ h1⟩
/-- a list of pairs -/
def PrsAt (H : Hp) (a : Addr) (ps : List Pr) : Prop := ∃ xs, H a = some (.lst xs) ∧ Paired (PrAt H) xs ps
theorem PrsAt.same {H H' : Hp} (g : Same H H') {a : Addr} {ps : List Pr} (h : PrsAt H a ps) : PrsAt H' a ps := by
  obtain ⟨xs, h1, h2⟩ := h
  exact ⟨xs, g _ _ h1, paired_mono (fun _ _ => PrAt.mono (same_tups g)) h2⟩
theorem dp_pr {K : PySem.W.Frag} {H : Hp} {x : V} {p : Pr} (h : PrAt H x p) : Dp K H x (prD p) := by
  obtain ⟨t, rfl, h1⟩ := h
  exact .tup (SqT.of h1) (.cons (.int _) (.cons (.int _) .nil))
theorem dp_prsL {K : PySem.W.Frag} {H : Hp} : ∀ {xs : List V} {ps : List Pr}, Paired (PrAt H) xs ps → DpAll K H xs (ps.map prD)
  | _, _, .nil => .nil
  | _, _, .cons h t => .cons (dp_pr h) (dp_prsL t)
theorem dp_prs {K : PySem.W.Frag} {H : Hp} {a : Addr} {ps : List Pr} (h : PrsAt H a ps) : Dp K H (.ref a) (prsD ps) := by
  obtain ⟨xs, h1, h2⟩ := h
  exact .lst (SqL.of h1) (dp_prsL h2)
theorem eqv_pr (p q : Pr) : PyData.eqv (prD p) (prD q) = decide (p = q) := by
  obtain ⟨a, b⟩ := p
  obtain ⟨c, d⟩ := q
  simp only [PyData.eqv, PyData.eqvAll]
  by_cases h1 : a = c <;> by_cases h2 : b = d <;> simp [h1, h2]
theorem eqv_prsL : ∀ ps qs : List Pr, PyData.eqvAll (ps.map prD) (qs.map prD) = decide (ps = qs)
  | [], [] => by simp [PyData.eqvAll]
  | [], _ :: _ => by simp [PyData.eqvAll]
  | _ :: _, [] => by simp [PyData.eqvAll]
  | p :: ps, q :: qs => by
    rw [List.map_cons, List.map_cons, PyData.eqvAll, eqv_prsL ps qs, eqv_pr]
    by_cases h1 : p = q <;> by_cases h2 : ps = qs <;> simp [h1, h2]
theorem eqv_prs (ps qs : List Pr) : PyData.eqv (prsD ps) (prsD qs) = decide (ps = qs) := by rw [PyData.eqv, eqv_prsL]
theorem any_pr (q : Pr) : ∀ ps : List Pr, ((ps.map prD).any fun z => PyData.eqv z (prD q)) = decide (q ∈ ps)
  | [] => by simp
  | p :: ps => by
    rw [List.map_cons, List.any_cons, any_pr q ps, eqv_pr]
    by_cases h : p = q
    · subst h
      simp
    · have h' : ¬ q = p := fun z => h z.symm
      simp [h, h']
theorem shaped_pr (p : Pr) : SeqAt.shaped (prD p) = true := by
  unfold SeqAt.shaped
  simp [PyData.canLay0, PyData.canLayAll0, PyData.depth, PyData.depthAll]
theorem lay_prsL : ∀ ps : List Pr, PyData.canLayAll0 (ps.map prD) = true ∧ PyData.depthAll (ps.map prD) ≤ 1
  | [] => by simp [PyData.canLayAll0, PyData.depthAll]
  | p :: ps => by
    obtain ⟨h1, h2⟩ := lay_prsL ps
    rw [List.map_cons, PyData.canLayAll0, h1, PyData.depthAll]
    refine ⟨by simp [PyData.canLay0, PyData.canLayAll0], ?_⟩
    have e : PyData.depth (prD p) ≤ 1 := by simp [PyData.depth, PyData.depthAll]
    omega
theorem shaped_prs (ps : List Pr) : SeqAt.shaped (prsD ps) = true := by
  unfold SeqAt.shaped
  obtain ⟨h1, h2⟩ := lay_prsL ps
  rw [PyData.canLay0, h1, PyData.depth, Bool.true_and]
  exact decide_eq_true (by omega)
end Nm
namespace Nm
open PySem PySem.Spec PyProof.Rows L2
theorem u65 {k : Nat} {A : Around} (r : Room k A) : A.units + 65 < cLine := by
  have := r.un
  omega
theorem u66 {k : Nat} {A : Around} (r : Room k A) : A.units + 66 < cLine := by
  have := r.un
  omega
/-! ### all pairs i < j with f, row by row -/
def rowUp (f : Nat → Nat → Bool) (i k : Nat) : List Pr := (((List.range k).map fun d => i + 1 + d).filter (f i)).map fun (j : Nat) => ((i : Int), (j : Int))
def pairsUp (f : Nat → Nat → Bool) (n m : Nat) : List Pr := (List.range m).flatMap fun i => rowUp f i (n - (i + 1))
abbrev pairsOf (f : Nat → Nat → Bool) (n : Nat) : List Pr := pairsUp f n n
theorem rowUp_one (f : Nat → Nat → Bool) (i k : Nat) : rowUp f i (k + 1) = rowUp f i k ++ (if f i (i + 1 + k) = true then [((i : Int), ((i + 1 + k : Nat) : Int))] else []) := by
  unfold rowUp
  rw [List.range_succ, List.map_append, List.filter_append, List.map_append]
  congr 1
  by_cases h : f i (i + 1 + k) = true
  · rw [if_pos h, List.map_singleton, List.filter_cons_of_pos h]
    rfl
  · rw [if_neg h, List.map_singleton, List.filter_cons_of_neg h]
    rfl
theorem pairsUp_one (f : Nat → Nat → Bool) (n m : Nat) : pairsUp f n (m + 1) = pairsUp f n m ++ rowUp f m (n - (m + 1)) := by
  unfold pairsUp
  rw [List.range_succ, List.flatMap_append]
  simp
theorem mem_rowUp {f : Nat → Nat → Bool} {i k : Nat} {p : Pr} : p ∈ rowUp f i k ↔ ∃ j : Nat, p = ((i : Int), (j : Int)) ∧ i < j ∧ j < i + 1 + k ∧ f i j = true := by
  unfold rowUp
  rw [List.mem_map]
  constructor
  · rintro ⟨j, hj, rfl⟩
    obtain ⟨h1, h2⟩ := List.mem_filter.mp hj
    obtain ⟨d, hd, rfl⟩ := List.mem_map.mp h1
    have := List.mem_range.mp hd
    exact ⟨_, rfl, by omega, by omega, h2⟩
  · rintro ⟨j, rfl, h1, h2, h3⟩
    exact ⟨j, List.mem_filter.mpr ⟨List.mem_map.mpr ⟨j - (i + 1), List.mem_range.mpr (by omega), by omega⟩, h3⟩, rfl⟩
theorem mem_pairsUp {f : Nat → Nat → Bool} {n m : Nat} {p : Pr} : p ∈ pairsUp f n m ↔ ∃ i j : Nat, p = ((i : Int), (j : Int)) ∧ i < j ∧ j < n ∧ i < m ∧ f i j = true := by
  unfold pairsUp
  rw [List.mem_flatMap]
  constructor
  · rintro ⟨i, hi, hp⟩
    obtain ⟨j, e, h1, h2, h3⟩ := mem_rowUp.mp hp
    exact ⟨i, j, e, h1, by omega, List.mem_range.mp hi, h3⟩
  · rintro ⟨i, j, rfl, h1, h2, h3, h4⟩
    exact ⟨i, List.mem_range.mpr h3, mem_rowUp.mpr ⟨j, rfl, h1, by omega, h4⟩⟩
theorem rowUp_congr {f g : Nat → Nat → Bool} {i k : Nat} (h : ∀ j, i < j → j < i + 1 + k → f i j = g i j) : rowUp f i k = rowUp g i k := by
  unfold rowUp
  congr 1
  refine List.filter_congr fun j hj => ?_
  obtain ⟨d, hd, rfl⟩ := List.mem_map.mp hj
  have := List.mem_range.mp hd
  exact h _ (by omega) (by omega)
theorem flat_congr {α β : Type} {f g : α → List β} : ∀ {l : List α}, (∀ x ∈ l, f x = g x) → l.flatMap f = l.flatMap g
  | [], _ => rfl
  | x :: l, h => by rw [List.flatMap_cons, List.flatMap_cons, h x List.mem_cons_self, flat_congr fun y hy => h y (List.mem_cons_of_mem _ hy)]
theorem pairsOf_congr {f g : Nat → Nat → Bool} {n : Nat} (h : ∀ i j, i < j → j < n → f i j = g i j) : pairsOf f n = pairsOf g n := by
  refine flat_congr fun i hi => rowUp_congr fun j h1 h2 => ?_
  exact h i j h1 (by omega)
theorem filter_rowUp (f : Nat → Nat → Bool) (c : Pr → Bool) (i k : Nat) : (rowUp f i k).filter c = rowUp (fun (i j : Nat) => f i j && c ((i : Int), (j : Int))) i k := by
  unfold rowUp
  rw [List.filter_map, List.filter_filter]
  congr 1
  refine List.filter_congr fun j _ => ?_
  show (c ((i : Int), (j : Int)) && f i j) = (f i j && c ((i : Int), (j : Int)))
  exact Bool.and_comm _ _
theorem filter_flat {α β : Type} (c : β → Bool) (f : α → List β) : ∀ l : List α, (l.flatMap f).filter c = l.flatMap fun x => (f x).filter c
  | [] => rfl
  | x :: l => by rw [List.flatMap_cons, List.flatMap_cons, List.filter_append, filter_flat c f l]
theorem filter_pairsOf (f : Nat → Nat → Bool) (c : Pr → Bool) (n : Nat) : (pairsOf f n).filter c = pairsOf (fun (i j : Nat) => f i j && c ((i : Int), (j : Int))) n := by
  unfold pairsOf pairsUp
  rw [filter_flat]
  exact flat_congr fun i _ => filter_rowUp f c i _
theorem rowUp_none {f : Nat → Nat → Bool} {i k : Nat} (h : ∀ j, i < j → j < i + 1 + k → f i j = false) : rowUp f i k = [] := by
  refine List.eq_nil_iff_forall_not_mem.mpr fun p hp => ?_
  obtain ⟨j, _, h1, h2, h3⟩ := mem_rowUp.mp hp
  rw [h j h1 h2] at h3
  cases h3
theorem rowUp_less {f : Nat → Nat → Bool} {i : Nat} : ∀ {k l : Nat}, l ≤ k → (∀ j, i + 1 + l ≤ j → j < i + 1 + k → f i j = false) → rowUp f i k = rowUp f i l
  | 0, l, h, _ => by
    have : l = 0 := by omega
    subst this
    rfl
  | k + 1, l, h, hf => by
    by_cases e : l = k + 1
    · rw [e]
    · rw [rowUp_one, rowUp_less (k := k) (l := l) (by omega) fun j h1 h2 => hf j h1 (by omega), hf (i + 1 + k) (by omega) (by omega)]
      simp
/-- of a joined hall: the first ones -/
theorem first_pairs (f : Nat → Nat → Bool) (n m : Nat) : (pairsOf f (n + m)).filter (fun p => decide (p.2 < (n : Int))) = pairsOf f n := by
  rw [filter_pairsOf]
  unfold pairsOf pairsUp
  rw [List.range_add, List.flatMap_append]
  have z : (List.map (fun x => n + x) (List.range m)).flatMap (fun i => rowUp (fun (i j : Nat) => f i j && decide (((i : Int), (j : Int)).2 < (n : Int))) i (n + m - (i + 1))) = [] := by
    refine List.eq_nil_iff_forall_not_mem.mpr fun p hp => ?_
    obtain ⟨i, hi, hp⟩ := List.mem_flatMap.mp hp
    obtain ⟨x, _, rfl⟩ := List.mem_map.mp hi
    obtain ⟨j, _, h1, h2, h3⟩ := mem_rowUp.mp hp
    rw [Bool.and_eq_true] at h3
    have := of_decide_eq_true h3.2
    have : (j : Int) < (n : Int) := this
    omega
  rw [z, List.append_nil]
  refine flat_congr fun i hi => ?_
  have hi' := List.mem_range.mp hi
  rw [rowUp_less (k := n + m - (i + 1)) (l := n - (i + 1)) (by omega) fun j h1 h2 => by
    rw [decide_eq_false (show ¬ ((j : Int) < (n : Int)) by omega), Bool.and_false]]
  refine rowUp_congr fun j h1 h2 => ?_
  rw [decide_eq_true (show ((j : Int) < (n : Int)) by omega), Bool.and_true]
/-- of a joined hall: the last ones, numbered anew -/
theorem last_pairs (f g : Nat → Nat → Bool) (n m : Nat) (h : ∀ i j, f (n + i) (n + j) = g i j) : ((pairsOf f (n + m)).filter (fun p => decide ((n : Int) ≤ p.1))).map (fun p => (p.1 - (n : Int), p.2 - (n : Int))) = pairsOf g m := by
  rw [filter_pairsOf]
  unfold pairsOf pairsUp
  rw [List.range_add, List.flatMap_append]
  have z : (List.range n).flatMap (fun i => rowUp (fun (i j : Nat) => f i j && decide ((n : Int) ≤ ((i : Int), (j : Int)).1)) i (n + m - (i + 1))) = [] := by
    refine List.eq_nil_iff_forall_not_mem.mpr fun p hp => ?_
    obtain ⟨i, hi, hp⟩ := List.mem_flatMap.mp hp
    obtain ⟨j, _, h1, h2, h3⟩ := mem_rowUp.mp hp
    rw [Bool.and_eq_true] at h3
    have := of_decide_eq_true h3.2
    have : (n : Int) ≤ (i : Int) := this
    have := List.mem_range.mp hi
    omega
  rw [z, List.nil_append, List.map_flatMap, List.flatMap_map]
  refine flat_congr fun i hi => ?_
  have e : n + m - (n + i + 1) = m - (i + 1) := by omega
  rw [e]
  unfold rowUp
  rw [List.map_map]
  have r : (List.range (m - (i + 1))).map (fun d => n + i + 1 + d) = ((List.range (m - (i + 1))).map (fun d => i + 1 + d)).map (fun j => n + j) := by
    rw [List.map_map]
    refine List.map_congr_left fun d _ => ?_
    show n + i + 1 + d = n + (i + 1 + d)
    omega
  rw [r, List.filter_map, List.map_map]
  have c : List.filter ((fun (j : Nat) => f (n + i) j && decide ((n : Int) ≤ (((n + i : Nat) : Int), (j : Int)).1)) ∘ fun j => n + j) ((List.range (m - (i + 1))).map fun d => i + 1 + d) = List.filter (g i) ((List.range (m - (i + 1))).map fun d => i + 1 + d) := by
    refine List.filter_congr fun j _ => ?_
    show (f (n + i) (n + j) && decide ((n : Int) ≤ ((n + i : Nat) : Int))) = g i j
    rw [decide_eq_true (show (n : Int) ≤ ((n + i : Nat) : Int) by omega), Bool.and_true, h]
  rw [c]
  refine List.map_congr_left fun j _ => ?_
  show ((((n + i : Nat) : Int) - (n : Int)), (((n + j : Nat) : Int) - (n : Int))) = ((i : Int), (j : Int))
  rw [show (((n + i : Nat) : Int) - (n : Int)) = (i : Int) by omega, show (((n + j : Nat) : Int) - (n : Int)) = (j : Int) by omega]
/-! ### boards that are pairs -/
def rowExt (a b : List Str) : Bool := decide (b.dropLast = a) && decide (b.length = a.length + 1)
/-- one longer by a word that the longer one's master has played -/
def extOk (b c : Bd) : Bool := rowExt b.2.2 c.2.2 && !decide ((b.2.2.length : Int) % 2 = c.2.1)
def arePair (b c : Bd) : Bool := decide (b.1 = c.1) && (!decide (b.2.1 = c.2.1) && (decide (b.2.2 = c.2.2) || (extOk b c || extOk c b)))
def areApart (b c : Bd) : Bool := decide (b.1 = c.1) && (!decide (b.2.1 = c.2.1) && (rowExt b.2.2 c.2.2 || rowExt c.2.2 b.2.2))
def onB (f : Bd → Bd → Bool) (bs : List Bd) (i j : Nat) : Bool := match bs[i]?, bs[j]? with
  | some b, some c => f b c
  | _, _ => false
theorem onB_at {f : Bd → Bd → Bool} {bs : List Bd} {i j : Nat} {b c : Bd} (h1 : bs[i]? = some b) (h2 : bs[j]? = some c) : onB f bs i j = f b c := by
  unfold onB
  rw [h1, h2]
def turnB (b : Bd) : Bd := (b.1, 1 - b.2.1, b.2.2)
def sideOk (b : Bd) : Prop := b.2.1 = 0 ∨ b.2.1 = 1
theorem ext_ne {a b : List Str} (h : rowExt a b = true) : ¬ a = b := by
  unfold rowExt at h
  rw [Bool.and_eq_true] at h
  intro e
  subst e
  have := of_decide_eq_true h.2
  omega
theorem ext_one {a b : List Str} (h : rowExt a b = true) : rowExt b a = false := by
  unfold rowExt at h ⊢
  rw [Bool.and_eq_true] at h
  have := of_decide_eq_true h.2
  rw [decide_eq_false (show ¬ (a.length = b.length + 1) by omega), Bool.and_false]
theorem sideB {x : Int} {l : Nat} (h : x = 0 ∨ x = 1) : (decide ((l : Int) % 2 = 1 - x)) = !decide ((l : Int) % 2 = x) := by
  by_cases e : (l : Int) % 2 = x
  · rw [decide_eq_true e, decide_eq_false (show ¬ ((l : Int) % 2 = 1 - x) by omega)]
    rfl
  · rw [decide_eq_false e, decide_eq_true (show ((l : Int) % 2 = 1 - x) by omega)]
    rfl
theorem unlike_turn {b c : Bd} : decide ((turnB b).2.1 = (turnB c).2.1) = decide (b.2.1 = c.2.1) := by
  show decide (1 - b.2.1 = 1 - c.2.1) = decide (b.2.1 = c.2.1)
  by_cases e : b.2.1 = c.2.1
  · rw [decide_eq_true e, decide_eq_true (by omega)]
  · rw [decide_eq_false e, decide_eq_false (by omega)]
/-- turned about: those that begin alike are the same, of those one word apart just the others -/
theorem turn_pair {b c : Bd} (hb : sideOk b) (hc : sideOk c) : (areApart b c = false → arePair (turnB b) (turnB c) = arePair b c) ∧ (areApart b c = true → arePair (turnB b) (turnB c) = !arePair b c) := by
  have ub := unlike_turn (b := b) (c := c)
  have e1 : extOk (turnB b) (turnB c) = (rowExt b.2.2 c.2.2 && decide ((b.2.2.length : Int) % 2 = c.2.1)) := by
    show (rowExt b.2.2 c.2.2 && !decide ((b.2.2.length : Int) % 2 = 1 - c.2.1)) = _
    rw [sideB hc, Bool.not_not]
  have e2 : extOk (turnB c) (turnB b) = (rowExt c.2.2 b.2.2 && decide ((c.2.2.length : Int) % 2 = b.2.1)) := by
    show (rowExt c.2.2 b.2.2 && !decide ((c.2.2.length : Int) % 2 = 1 - b.2.1)) = _
    rw [sideB hb, Bool.not_not]
  unfold arePair areApart
  rw [ub, e1, e2]
  unfold extOk
  show (_ → (decide (b.1 = c.1) && _) = _) ∧ (_ → (decide (b.1 = c.1) && _) = _)
  cases n : decide (b.1 = c.1)
  · simp
  · cases s : decide (b.2.1 = c.2.1)
    · simp only [Bool.true_and, Bool.not_false]
      show (_ → (decide (b.2.2 = c.2.2) || _) = _) ∧ (_ → (decide (b.2.2 = c.2.2) || _) = _)
      cases x : rowExt b.2.2 c.2.2
      · cases y : rowExt c.2.2 b.2.2
        · simp
        · rw [decide_eq_false (fun e => ext_ne y e.symm)]
          simp
      · rw [ext_one x, decide_eq_false (ext_ne x)]
        simp
    · simp
/-! ### boards that are in order -/
def okB (b : Bd) : Prop := boardB b = true ∧ smallBd b
theorem lay_let {z : Str} {m : Int} (h : letB z m = true) : PyData.canLay0 (.str z) = true := by
  unfold letB at h
  rw [Bool.and_eq_true] at h
  have a := List.all_eq_true.mp h.2
  rw [PyData.canLay0]
  show z.cps.all (· < 0x110000) = true
  rw [Array.all_eq_true']
  intro c hc
  have := a c (by simpa using hc)
  rw [Bool.and_eq_true] at this
  have := of_decide_eq_true this.2
  exact decide_eq_true (by omega)
theorem okB.row {b : Bd} (h : okB b) : rowB b.2.2 20 = true := by
  have h1 := h.1
  unfold boardB at h1
  rw [Bool.and_eq_true, Bool.and_eq_true] at h1
  exact h1.2.2
theorem okB.lay {b : Bd} (h : okB b) : ∀ z ∈ b.2.2, PyData.canLay0 (.str z) = true := fun z hz => by
  have r := h.row
  unfold rowB at r
  rw [Bool.and_eq_true] at r
  exact lay_let (List.all_eq_true.mp r.2 z hz)
theorem okB.len {b : Bd} (h : okB b) : b.2.2.length ≤ 20 := by
  have r := h.row
  unfold rowB at r
  rw [Bool.and_eq_true] at r
  have := of_decide_eq_true r.1
  omega
theorem okB.side {b : Bd} (h : okB b) : sideOk b := by
  have h1 := h.1
  unfold boardB at h1
  rw [Bool.and_eq_true, Bool.and_eq_true] at h1
  have h2 : (decide (0 ≤ b.2.1) && decide (b.2.1 ≤ 1)) = true := h1.2.1
  rw [Bool.and_eq_true] at h2
  have a := of_decide_eq_true h2.1
  have c := of_decide_eq_true h2.2
  unfold sideOk
  omega
theorem okB.turn {b : Bd} (h : okB b) : okB (turnB b) := by
  have s := h.side
  have h1 := h.1
  unfold boardB at h1
  rw [Bool.and_eq_true, Bool.and_eq_true] at h1
  refine ⟨?_, h.2⟩
  show (letB b.1 8 && ((decide (0 ≤ 1 - b.2.1) && decide (1 - b.2.1 ≤ 1)) && rowB b.2.2 20)) = true
  unfold sideOk at s
  rw [h1.1, h1.2.2, decide_eq_true (show (0 : Int) ≤ 1 - b.2.1 by omega), decide_eq_true (show (1 : Int) - b.2.1 ≤ 1 by omega)]
  rfl
theorem decS {x y : Str} : decide (V.str x = V.str y) = decide (x = y) := by
  by_cases e : x = y
  · rw [e, decide_eq_true rfl, decide_eq_true rfl]
  · rw [decide_eq_false e, decide_eq_false fun z => e (V.str.inj z)]
theorem decI {x y : Int} : decide (V.int x = V.int y) = decide (x = y) := by
  by_cases e : x = y
  · rw [e, decide_eq_true rfl, decide_eq_true rfl]
  · rw [decide_eq_false e, decide_eq_false fun z => e (V.int.inj z)]
/-- what the program's own look at two boards comes to -/
theorem pair_short {b c : Bd} (n : b.1 = c.1) (s : ¬ b.2.1 = c.2.1) (l : b.2.2.length ≤ c.2.2.length) :
    arePair b c = (decide (b.2.2 = c.2.2) || (decide (c.2.2.dropLast = b.2.2) && !decide ((b.2.2.length : Int) % 2 = c.2.1))) := by
  unfold arePair extOk
  rw [decide_eq_true n, decide_eq_false s, Bool.true_and, Bool.not_false, Bool.true_and]
  by_cases e : b.2.2 = c.2.2
  · rw [decide_eq_true e, Bool.true_or, Bool.true_or]
  · rw [decide_eq_false e, Bool.false_or, Bool.false_or]
    have x2 : rowExt c.2.2 b.2.2 = false := by
      unfold rowExt
      rw [decide_eq_false (show ¬ (b.2.2.length = c.2.2.length + 1) by omega), Bool.and_false]
    have x1 : rowExt b.2.2 c.2.2 = decide (c.2.2.dropLast = b.2.2) := by
      unfold rowExt
      by_cases d : c.2.2.dropLast = b.2.2
      · rw [decide_eq_true d, Bool.true_and]
        refine decide_eq_true ?_
        have ld := congrArg List.length d
        rw [List.length_dropLast] at ld
        by_cases z : c.2.2.length = 0
        · exfalso
          have c0 : c.2.2 = [] := List.eq_nil_of_length_eq_zero z
          rw [c0] at d
          exact e (by rw [c0]; exact d.symm)
        · omega
      · rw [decide_eq_false d, Bool.false_and]
    rw [x1, x2, Bool.false_and, Bool.or_false]
theorem pair_swap (b c : Bd) : arePair b c = arePair c b := by
  unfold arePair
  rw [show decide (b.1 = c.1) = decide (c.1 = b.1) from decide_eq_decide.mpr eq_comm, show decide (b.2.1 = c.2.1) = decide (c.2.1 = b.2.1) from decide_eq_decide.mpr eq_comm, show decide (b.2.2 = c.2.2) = decide (c.2.2 = b.2.2) from decide_eq_decide.mpr eq_comm,
    Bool.or_comm (extOk b c) (extOk c b)]
theorem paired_take {α β : Type} {R : α → β → Prop} : ∀ {xs : List α} {ys : List β}, Paired R xs ys → ∀ n, Paired R (xs.take n) (ys.take n)
  | _, _, .nil, n => by
    rw [List.take_nil, List.take_nil]
    exact .nil
  | _, _, .cons r t, 0 => .nil
  | _, _, .cons r t, n + 1 => .cons r (paired_take t n)
theorem paired_app {α β : Type} {R : α → β → Prop} : ∀ {xs : List α} {ys : List β} {us : List α} {ws : List β}, Paired R xs ys → Paired R us ws → Paired R (xs ++ us) (ys ++ ws)
  | _, _, _, _, .nil, h => h
  | _, _, _, _, .cons r t, h => .cons r (paired_app t h)
theorem putF_len (f : Str) (y : V) : ∀ fs : List (Str × V), (putF f y fs).length ≤ fs.length + 1
  | [] => by simp [putF]
  | (g, z) :: fs => by
    have ih := putF_len f y fs
    unfold putF
    split
    · simp
    · rw [List.length_cons, List.length_cons]
      omega
theorem cutV_take (xs : List V) (k : Nat) : cutV xs none (some (k : Int)) = xs.take k := by
  unfold cutV
  rw [HT.sIx_nat, HT.sIx_none, List.drop_zero, Nat.sub_zero]
  by_cases c : k ≤ xs.length
  · rw [Nat.min_eq_left c]
  · rw [Nat.min_eq_right (by omega), List.take_of_length_le (Nat.le_refl _), List.take_of_length_le (by omega)]
end Nm
namespace Nm
open PySem PySem.Spec PyProof.Rows L2
abbrev sK := PyProof.Rows.strKind
/-- a text before another one -/
abbrev before (a b : Str) : Prop := sK.blt a.cps.toList b.cps.toList = true
theorem lt_blt (a b : Str) : ltCps a.cps.toList b.cps.toList = sK.blt a.cps.toList b.cps.toList := PyProof.Rows.ltCps_eq _ _
theorem before_not {a b : Str} (h : before a b) : ¬ before b a := fun h2 => by
  have z := sK.trans _ _ _ h h2
  rw [sK.irrefl] at z
  cases z
theorem before_tr {a b c : Str} (h : before a b) (h2 : before b c) : before a c := sK.trans a.cps.toList b.cps.toList c.cps.toList h h2
theorem before_tot {a b : Str} (h : ¬ before b a) (n : a ≠ b) : before a b := by
  cases e : sK.blt a.cps.toList b.cps.toList with
  | true => exact e
  | false =>
    have z := sK.total a.cps.toList b.cps.toList e (by
      cases e2 : sK.blt b.cps.toList a.cps.toList with
      | true => exact absurd e2 h
      | false => rfl)
    refine absurd ?_ n
    obtain ⟨⟨x⟩⟩ := a
    obtain ⟨⟨y⟩⟩ := b
    have z' : x = y := z
    rw [z']
/-- two ascending lists of the same texts are one -/
theorem rise_one : ∀ {xs ys : List Str}, xs.Pairwise before → ys.Pairwise before → (∀ z, z ∈ xs ↔ z ∈ ys) → xs = ys
  | [], [], _, _, _ => rfl
  | [], y :: ys, _, _, h => absurd ((h y).mpr List.mem_cons_self) (List.not_mem_nil)
  | x :: xs, [], _, _, h => absurd ((h x).mp List.mem_cons_self) (List.not_mem_nil)
  | x :: xs, y :: ys, p, q, h => by
    obtain ⟨p1, p2⟩ := List.pairwise_cons.mp p
    obtain ⟨q1, q2⟩ := List.pairwise_cons.mp q
    have e : x = y := by
      rcases List.mem_cons.mp ((h x).mp List.mem_cons_self) with e | m
      · exact e
      · rcases List.mem_cons.mp ((h y).mpr List.mem_cons_self) with e | m2
        · exact e.symm
        · exact absurd (p1 y m2) (before_not (q1 x m))
    subst e
    rw [rise_one p2 q2 fun z => ?_]
    have hz := h z
    constructor
    · intro m
      rcases List.mem_cons.mp (hz.mp (List.mem_cons_of_mem _ m)) with rfl | m2
      · exact absurd (p1 z m) (fun w => before_not w w)
      · exact m2
    · intro m
      rcases List.mem_cons.mp (hz.mpr (List.mem_cons_of_mem _ m)) with rfl | m2
      · exact absurd (q1 z m) (fun w => before_not w w)
      · exact m2
theorem rising_pw : ∀ (r : List Str) (p : Str), risingS p r = true → (p :: r).Pairwise fun a b => ¬ before b a
  | [], p, _ => List.pairwise_singleton _ _
  | x :: r, p, h => by
    have h' : (!ltCps x.cps.toList p.cps.toList && risingS x r) = true := h
    rw [Bool.and_eq_true, lt_blt] at h'
    have ih := rising_pw r x h'.2
    have px : ¬ before x p := fun z => by
      have w := h'.1
      rw [show sK.blt x.cps.toList p.cps.toList = true from z] at w
      cases w
    refine List.pairwise_cons.mpr ⟨fun b hb => ?_, ih⟩
    rcases List.mem_cons.mp hb with rfl | hb
    · exact px
    · intro z
      have xb := (List.pairwise_cons.mp ih).1 b hb
      rcases sK.negTrans b.cps.toList x.cps.toList p.cps.toList z with w | w
      · exact xb w
      · exact px w
theorem sorted_pw {xs : List Str} (h : sortedS xs = true) : xs.Pairwise fun a b => ¬ before b a := by
  cases xs with
  | nil => exact List.Pairwise.nil
  | cons x r => exact rising_pw r x h
theorem Names.rise {xs ys : List Str} (h : Names xs ys) : ys.Pairwise before :=
  (List.Pairwise.and (sorted_pw h.up) h.nd).imp fun ⟨a, b⟩ => before_tot a b
/-- each once, as the neighbours tell -/
def onceUp (zs : List Str) : Nat → List Str
  | 0 => []
  | i + 1 => onceUp zs i ++ (if i = 0 ∨ zs.getD i Str.empty ≠ zs.getD (i - 1) Str.empty then [zs.getD i Str.empty] else [])
theorem once_mem {zs : List Str} (h : zs.Pairwise fun a b => ¬ before b a) : ∀ i, i ≤ zs.length → (onceUp zs i).Pairwise before ∧ (∀ z, z ∈ onceUp zs i ↔ z ∈ zs.take i)
  | 0, _ => ⟨List.Pairwise.nil, fun z => by simp [onceUp]⟩
  | i + 1, hi => by
    obtain ⟨p, m⟩ := once_mem h i (by omega)
    have hx : zs[i]? = some (zs.getD i Str.empty) := by
      rw [List.getD_eq_getElem?_getD, List.getElem?_eq_getElem (by omega)]
      rfl
    have tk := take_one hx
    unfold onceUp
    by_cases c : i = 0 ∨ zs.getD i Str.empty ≠ zs.getD (i - 1) Str.empty
    · rw [if_pos c, tk]
      refine ⟨?_, fun z => by rw [List.mem_append, List.mem_append, m z]⟩
      rw [List.pairwise_append]
      refine ⟨p, List.pairwise_singleton _ _, fun u hu v hv => ?_⟩
      rw [List.mem_singleton.mp hv]
      have hu' := (m u).mp hu
      obtain ⟨j, hj⟩ := List.mem_iff_getElem?.mp hu'
      rw [List.getElem?_take] at hj
      by_cases ji : j < i
      rotate_left
      · rw [if_neg ji] at hj
        cases hj
      rw [if_pos ji] at hj
      have pw := List.pairwise_iff_getElem.mp h
      have ej : zs[j]'(by omega) = u := by
        rw [List.getElem?_eq_getElem (by omega)] at hj
        exact Option.some.inj hj
      have ei : zs[i]'(by omega) = zs.getD i Str.empty := by
        rw [List.getElem?_eq_getElem (by omega)] at hx
        exact Option.some.inj hx
      have vu : ¬ before (zs.getD i Str.empty) u := by
        have z := pw j i (by omega) (by omega) ji
        rw [ej, ei] at z
        exact z
      refine before_tot vu fun e => ?_
      have cc : zs.getD i Str.empty ≠ zs.getD (i - 1) Str.empty := c.elim (fun z => by omega) id
      have el : zs[i - 1]'(by omega) = zs.getD (i - 1) Str.empty := by
        rw [List.getD_eq_getElem?_getD, List.getElem?_eq_getElem (by omega)]
        rfl
      by_cases jl : j = i - 1
      · subst jl
        exact cc (by rw [← e, ← ej, el])
      · have z1 := pw j (i - 1) (by omega) (by omega) (by omega)
        have z2 := pw (i - 1) i (by omega) (by omega) (by omega)
        rw [ej, el] at z1
        rw [el, ei] at z2
        have z3 := before_tot z2 (fun q => cc q.symm)
        rw [← e] at z3
        exact z1 z3
    · rw [if_neg c, List.append_nil, tk]
      refine ⟨p, fun z => ?_⟩
      rw [m z, List.mem_append]
      refine ⟨.inl, fun w => w.elim id fun w => ?_⟩
      rw [List.mem_singleton.mp w]
      have e : zs.getD i Str.empty = zs.getD (i - 1) Str.empty := Classical.not_not.mp fun q => c (.inr q)
      have i0 : i ≠ 0 := fun q => c (.inl q)
      rw [e, List.mem_iff_getElem?]
      refine ⟨i - 1, ?_⟩
      rw [List.getElem?_take, if_pos (by omega), List.getD_eq_getElem?_getD, List.getElem?_eq_getElem (by omega)]
      rfl
/-- the names once each are the hall's names -/
theorem once_names {zs ns ys : List Str} (h : sortedS zs = true) (pm : zs.Perm ns) (nm : Names ns ys) : onceUp zs zs.length = ys := by
  obtain ⟨p, m⟩ := once_mem (sorted_pw h) zs.length (Nat.le_refl _)
  refine rise_one p nm.rise fun z => ?_
  rw [m z, List.take_length, pm.mem_iff, nm.mem]
end Nm
namespace Nm
open PySem PySem.Spec PyProof.Rows L2 NmD
/-! ### the order of rows -/
theorem rowToks_inj {a b : List Str} (h : PySem.W.keyToksAll (rowL a) = PySem.W.keyToksAll (rowL b)) : a = b := by
  cases e : PyData.eqvAll (rowL a) (rowL b) with
  | true =>
    rw [eqv_rowL] at e
    exact of_decide_eq_true e
  | false =>
    have k := (PySem.W.toksAll_eqv (rowL a) (rowL b) (alike_rowL a b)).2 e [Sum.inl 0] [Sum.inl 1]
    rw [h, PySem.W.lex_pre, lex_irrefl] at k
    exact absurd k (by decide)
theorem rowLt_irr (a : List Str) : rowLt a a = false := lex_irrefl (O := itemOrd) _
theorem rowLt_tr {a b c : List Str} (h1 : rowLt a b = true) (h2 : rowLt b c = true) : rowLt a c = true := lex_trans (O := itemOrd) _ _ _ h1 h2
theorem rowLt_tot {a b : List Str} (h1 : rowLt a b = false) (h2 : rowLt b a = false) : a = b := rowToks_inj (lex_total (O := itemOrd) _ _ h1 h2)
abbrev bef (a b : List Str) : Prop := rowLt a b = true
theorem bef_not {a b : List Str} (h : bef a b) : ¬ bef b a := fun h2 => by
  have z := rowLt_tr h h2
  rw [rowLt_irr] at z
  cases z
theorem rows_one : ∀ {xs ys : List (List Str)}, xs.Pairwise bef → ys.Pairwise bef → (∀ z, z ∈ xs ↔ z ∈ ys) → xs = ys
  | [], [], _, _, _ => rfl
  | [], y :: ys, _, _, h => absurd ((h y).mpr List.mem_cons_self) (List.not_mem_nil)
  | x :: xs, [], _, _, h => absurd ((h x).mp List.mem_cons_self) (List.not_mem_nil)
  | x :: xs, y :: ys, p, q, h => by
    obtain ⟨p1, p2⟩ := List.pairwise_cons.mp p
    obtain ⟨q1, q2⟩ := List.pairwise_cons.mp q
    have e : x = y := by
      rcases List.mem_cons.mp ((h x).mp List.mem_cons_self) with e | m
      · exact e
      · rcases List.mem_cons.mp ((h y).mpr List.mem_cons_self) with e | m2
        · exact e.symm
        · exact absurd (p1 y m2) (bef_not (q1 x m))
    subst e
    rw [rows_one p2 q2 fun z => ?_]
    have hz := h z
    constructor
    · intro m
      rcases List.mem_cons.mp (hz.mp (List.mem_cons_of_mem _ m)) with rfl | m2
      · exact absurd (p1 z m) (fun w => bef_not w w)
      · exact m2
    · intro m
      rcases List.mem_cons.mp (hz.mpr (List.mem_cons_of_mem _ m)) with rfl | m2
      · exact absurd (q1 z m) (fun w => bef_not w w)
      · exact m2
theorem bef_nodup {xs : List (List Str)} (h : xs.Pairwise bef) : xs.Nodup := h.imp fun {a b} h e => by
  subst e
  exact bef_not h h
theorem srt_bef {xs : List (List Str)} (h : xs.Pairwise fun a b => rowLt b a = false) (n : xs.Nodup) : xs.Pairwise bef := by
  induction xs with
  | nil => exact .nil
  | cons x xs ih =>
    obtain ⟨h1, h2⟩ := List.pairwise_cons.mp h
    obtain ⟨n1, n2⟩ := List.nodup_cons.mp n
    refine List.pairwise_cons.mpr ⟨fun y hy => ?_, ih h2 n2⟩
    cases e : rowLt x y with
    | true => exact e
    | false => exact absurd (rowLt_tot e (h1 y hy)) (fun z => n1 (z ▸ hy))
theorem nil_bef (w : Str) (r : List Str) : bef [] (w :: r) := by
  show rowLt [] (w :: r) = true
  unfold rowLt
  rw [rowL_nil, rowL_cons, PySem.W.toks_all_cons]
  simp only [PySem.W.keyToksAll]
  rw [lex_diff (O := itemOrd) (by simp)]
  rfl
theorem bef_pre {a b : List Str} (h : a <+: b) (n : a ≠ b) : bef a b := by
  obtain ⟨t, rfl⟩ := h
  cases t with
  | nil => exact absurd (List.append_nil a).symm n
  | cons w r =>
    have e := row_pre a [] (w :: r)
    rw [List.append_nil] at e
    show rowLt a (a ++ w :: r) = true
    rw [e]
    exact nil_bef w r
theorem one_lt (a b : Str) : rowLt [a] [b] = true ↔ before a b := by
  have e : rowLt [a] [b] = decide (a.cps.toList < b.cps.toList) := by
    show PyProof.Rows.lexLt itemOrd (PySem.W.keyToksAll (rowL [a])) (PySem.W.keyToksAll (rowL [b])) = _
    by_cases c : a = b
    · subst c
      rw [lex_irrefl]
      exact (decide_eq_false (List.lt_irrefl _)).symm
    · rw [show rowL [a] = [PyData.str a] from rfl, show rowL [b] = [PyData.str b] from rfl, PySem.W.dataLt_all_no (by simp [PySem.W.alike]) (by rw [PyData.eqv]; simp [c]), PySem.W.dataLt_str]
  rw [e]
theorem snoc_lt (r : List Str) (a b : Str) : bef (r ++ [a]) (r ++ [b]) ↔ before a b := by
  show rowLt (r ++ [a]) (r ++ [b]) = true ↔ _
  rw [row_pre]
  exact one_lt a b
/-! ### games -/
/-- a word that is one and that is not too long for the model -/
def wordOk (z : Str) : Prop := letB z 20 = true ∧ z.length ≤ 1000
def rwOk (r : List Str) : Prop := r.length ≤ 60 ∧ ∀ z ∈ r, wordOk z
structure IsG (rs : List (List Str)) : Prop where
  up : rs.Pairwise bef
  nil : [] ∈ rs
  pre : ∀ r ∈ rs, r.dropLast ∈ rs
  ok : ∀ r ∈ rs, rwOk r
  few : rs.length ≤ 600
theorem IsG.take {rs : List (List Str)} (g : IsG rs) {r : List Str} (h : r ∈ rs) (k : Nat) : r.take k ∈ rs := by
  obtain ⟨n, hn⟩ : ∃ n, r.length - k = n := ⟨_, rfl⟩
  induction n generalizing k with
  | zero =>
    rw [List.take_of_length_le (by omega)]
    exact h
  | succ n ih =>
    have m := g.pre _ (ih (k + 1) (by omega))
    rw [List.dropLast_eq_take, List.length_take, List.take_take, show min (min (k + 1) r.length - 1) (k + 1) = k by omega] at m
    exact m
theorem IsG.pfx {rs : List (List Str)} (g : IsG rs) {r a : List Str} (h : r ∈ rs) (p : a <+: r) : a ∈ rs := by
  rw [List.prefix_iff_eq_take.mp p]
  exact g.take h _
def lastW (r : List Str) : Str := r.getLast?.getD Str.empty
theorem lastW_snoc (r : List Str) (w : Str) : lastW (r ++ [w]) = w := by
  unfold lastW
  rw [List.getLast?_append]
  rfl
def isNext (row l : List Str) : Bool := decide (l.length = row.length + 1) && decide (l.dropLast = row)
theorem isNext_iff {row l : List Str} : isNext row l = true ↔ ∃ w, l = row ++ [w] := by
  unfold isNext
  rw [Bool.and_eq_true]
  constructor
  · rintro ⟨h1, h2⟩
    have h1 := of_decide_eq_true h1
    have h2 := of_decide_eq_true h2
    have n : l ≠ [] := fun z => by
      rw [z] at h1
      simp at h1
    exact ⟨l.getLast n, by rw [← h2]; exact (List.dropLast_concat_getLast n).symm⟩
  · rintro ⟨w, rfl⟩
    exact ⟨decide_eq_true (by simp), decide_eq_true (by simp)⟩
/-- the words that are let at a row -/
def wordsAt (rs : List (List Str)) (row : List Str) : List Str := (rs.filter (isNext row)).map lastW
theorem mem_words {rs : List (List Str)} {row : List Str} {w : Str} : w ∈ wordsAt rs row ↔ row ++ [w] ∈ rs := by
  unfold wordsAt
  rw [List.mem_map]
  constructor
  · rintro ⟨l, hl, rfl⟩
    obtain ⟨h1, h2⟩ := List.mem_filter.mp hl
    obtain ⟨w, rfl⟩ := isNext_iff.mp h2
    rw [lastW_snoc]
    exact h1
  · intro h
    exact ⟨_, List.mem_filter.mpr ⟨h, isNext_iff.mpr ⟨w, rfl⟩⟩, lastW_snoc _ _⟩
theorem words_up {rs : List (List Str)} (g : rs.Pairwise bef) (row : List Str) : (wordsAt rs row).Pairwise before := by
  unfold wordsAt
  rw [List.pairwise_map]
  refine List.Pairwise.imp_of_mem ?_ (g.filter (isNext row))
  intro a b ha hb h
  obtain ⟨v, rfl⟩ := isNext_iff.mp (List.mem_filter.mp ha).2
  obtain ⟨w, rfl⟩ := isNext_iff.mp (List.mem_filter.mp hb).2
  rw [lastW_snoc, lastW_snoc]
  exact (snoc_lt row v w).mp h
theorem before_nodup {xs : List Str} (h : xs.Pairwise before) : xs.Nodup := h.imp fun {a b} h e => by
  subst e
  exact before_not h h
/-- what is left behind a row -/
def behindOf (rs : List (List Str)) (row : List Str) : List (List Str) := (rs.filter fun l => decide (l.take row.length = row)).map (List.drop row.length)
theorem mem_behind {rs : List (List Str)} {row x : List Str} : x ∈ behindOf rs row ↔ row ++ x ∈ rs := by
  unfold behindOf
  rw [List.mem_map]
  constructor
  · rintro ⟨l, hl, rfl⟩
    obtain ⟨h1, h2⟩ := List.mem_filter.mp hl
    have h2 : l.take row.length = row := of_decide_eq_true h2
    have e : row ++ l.drop row.length = l := by
      conv => lhs; arg 1; rw [← h2]
      exact List.take_append_drop _ _
    rw [e]
    exact h1
  · intro h
    exact ⟨_, List.mem_filter.mpr ⟨h, decide_eq_true (by simp)⟩, by simp⟩
theorem isG_behind {rs : List (List Str)} (g : IsG rs) {row : List Str} (h : row ∈ rs) : IsG (behindOf rs row) := by
  refine ⟨?_, ?_, fun r hr => ?_, fun r hr => ?_, ?_⟩
  · unfold behindOf
    rw [List.pairwise_map]
    refine List.Pairwise.imp_of_mem ?_ (g.up.filter _)
    intro a b ha hb hab
    have ha' : a.take row.length = row := of_decide_eq_true (List.mem_filter.mp ha).2
    have hb' : b.take row.length = row := of_decide_eq_true (List.mem_filter.mp hb).2
    have ea : a = row ++ a.drop row.length := by
      conv => rhs; arg 1; rw [← ha']
      exact (List.take_append_drop _ _).symm
    have eb : b = row ++ b.drop row.length := by
      conv => rhs; arg 1; rw [← hb']
      exact (List.take_append_drop _ _).symm
    have q : rowLt (row ++ a.drop row.length) (row ++ b.drop row.length) = true := by
      rw [← ea, ← eb]
      exact hab
    rw [row_pre] at q
    exact q
  · rw [mem_behind, List.append_nil]
    exact h
  · rw [mem_behind] at hr ⊢
    cases List.eq_nil_or_concat r with
    | inl e =>
      subst e
      exact hr
    | inr e =>
      obtain ⟨r', w, rfl⟩ := e
      have z := g.pre _ hr
      rw [List.concat_eq_append] at z ⊢
      rw [← List.append_assoc, List.dropLast_concat] at z
      rw [List.dropLast_concat]
      exact z
  · rw [mem_behind] at hr
    obtain ⟨h1, h2⟩ := g.ok _ hr
    rw [List.length_append] at h1
    exact ⟨by omega, fun z hz => h2 z (List.mem_append_right _ hz)⟩
  · unfold behindOf
    rw [List.length_map]
    exact Nat.le_trans (List.length_filter_le _ _) g.few
theorem words_behind {rs : List (List Str)} (g : IsG rs) {row more : List Str} (h : row ∈ rs) : wordsAt (behindOf rs row) more = wordsAt rs (row ++ more) :=
  rise_one (words_up (isG_behind g h).up more) (words_up g.up _) fun z => by rw [mem_words, mem_words, mem_behind, List.append_assoc]
theorem behind_behind {rs : List (List Str)} (g : IsG rs) {row more : List Str} (h : row ∈ rs) (h2 : row ++ more ∈ rs) : behindOf (behindOf rs row) more = behindOf rs (row ++ more) :=
  rows_one (isG_behind (isG_behind g h) (mem_behind.mpr h2)).up (isG_behind g h2).up fun z => by rw [mem_behind, mem_behind, mem_behind, List.append_assoc]
theorem behind_nil {rs : List (List Str)} (g : IsG rs) : behindOf rs [] = rs := rows_one (isG_behind g g.nil).up g.up fun z => by rw [mem_behind, List.nil_append]
/-- the rows that are in both -/
def bothOf (rs qs : List (List Str)) : List (List Str) := rs.filter fun r => decide (r ∈ qs)
theorem mem_both {rs qs : List (List Str)} {r : List Str} : r ∈ bothOf rs qs ↔ r ∈ rs ∧ r ∈ qs := by
  unfold bothOf
  rw [List.mem_filter, decide_eq_true_eq]
theorem isG_both {rs qs : List (List Str)} (g : IsG rs) (k : IsG qs) : IsG (bothOf rs qs) :=
  ⟨g.up.filter _, mem_both.mpr ⟨g.nil, k.nil⟩, fun r hr => mem_both.mpr ⟨g.pre _ (mem_both.mp hr).1, k.pre _ (mem_both.mp hr).2⟩, fun r hr => g.ok _ (mem_both.mp hr).1, Nat.le_trans (List.length_filter_le _ _) g.few⟩
theorem both_swap {rs qs : List (List Str)} (g : IsG rs) (k : IsG qs) : bothOf rs qs = bothOf qs rs := rows_one (isG_both g k).up (isG_both k g).up fun z => by rw [mem_both, mem_both, and_comm]
theorem both_self {rs : List (List Str)} (g : IsG rs) : bothOf rs rs = rs := rows_one (isG_both g g).up g.up fun z => by rw [mem_both, and_self]
/-- the rows and their beginnings -/
structure Begs (rs gs : List (List Str)) : Prop where
  up : gs.Pairwise bef
  mem : ∀ x, x ∈ gs ↔ x = [] ∨ ∃ r ∈ rs, x <+: r
theorem Begs.one {rs gs hs : List (List Str)} (a : Begs rs gs) (b : Begs rs hs) : gs = hs := rows_one a.up b.up fun z => by rw [a.mem, b.mem]
theorem Begs.same {rs qs gs : List (List Str)} (a : Begs rs gs) (h : ∀ z, z ∈ rs ↔ z ∈ qs) : Begs qs gs := ⟨a.up, fun x => by
  rw [a.mem]
  constructor
  · rintro (e | ⟨r, h1, h2⟩)
    · exact .inl e
    · exact .inr ⟨r, (h r).mp h1, h2⟩
  · rintro (e | ⟨r, h1, h2⟩)
    · exact .inl e
    · exact .inr ⟨r, (h r).mpr h1, h2⟩⟩
theorem Begs.isG {rs gs : List (List Str)} (a : Begs rs gs) (ok : ∀ r ∈ rs, rwOk r) (few : gs.length ≤ 600) : IsG gs := by
  refine ⟨a.up, (a.mem _).mpr (.inl rfl), fun r hr => ?_, fun r hr => ?_, few⟩
  · rcases (a.mem r).mp hr with rfl | ⟨q, h1, h2⟩
    · exact hr
    · exact (a.mem _).mpr (.inr ⟨q, h1, (List.dropLast_prefix r).trans h2⟩)
  · rcases (a.mem r).mp hr with rfl | ⟨q, h1, h2⟩
    · exact ⟨Nat.zero_le _, fun z hz => absurd hz (List.not_mem_nil)⟩
    · obtain ⟨k1, k2⟩ := ok q h1
      exact ⟨Nat.le_trans h2.length_le k1, fun z hz => k2 z (h2.subset hz)⟩
theorem begs_game {rs : List (List Str)} (g : IsG rs) : Begs rs rs := ⟨g.up, fun x => ⟨fun h => .inr ⟨x, h, List.prefix_refl _⟩, fun h => by
  rcases h with rfl | ⟨r, h1, h2⟩
  · exact g.nil
  · exact g.pfx h1 h2⟩⟩
/-- at most so many: each row has no more beginnings than words, but for () -/
theorem begs_len {rs gs : List (List Str)} (a : Begs rs gs) : gs.length ≤ 1 + (rs.map List.length).sum := by
  have sub : ∀ (rs : List (List Str)) (gs : List (List Str)), gs.Nodup → (∀ x ∈ gs, x ≠ [] ∧ ∃ r ∈ rs, x <+: r) → gs.length ≤ (rs.map List.length).sum := by
    intro rs
    induction rs with
    | nil =>
      intro gs _ h
      cases gs with
      | nil => exact Nat.le_refl _
      | cons x _ =>
        obtain ⟨_, r, hr, _⟩ := h x List.mem_cons_self
        exact absurd hr (List.not_mem_nil)
    | cons r rs ih =>
      intro gs nd h
      have one : (gs.filter fun x => decide (x <+: r)).length ≤ r.length := by
        have s := List.Nodup.length_le_of_subset (l₂ := (List.range r.length).map fun k => r.take (k + 1)) (List.Pairwise.filter (fun x => decide (x <+: r)) nd) (fun x hx => by
          have px : x <+: r := of_decide_eq_true (List.mem_filter.mp hx).2
          have ne := (h x (List.mem_filter.mp hx).1).1
          have l := px.length_le
          have p : 0 < x.length := List.length_pos_iff.mpr ne
          refine List.mem_map.mpr ⟨x.length - 1, List.mem_range.mpr (by omega), ?_⟩
          rw [show x.length - 1 + 1 = x.length by omega]
          exact (List.prefix_iff_eq_take.mp px).symm)
        rw [List.length_map, List.length_range] at s
        exact s
      have two := ih (gs.filter fun x => !decide (x <+: r)) (List.Pairwise.filter _ nd) fun x hx => by
        obtain ⟨h1, h2⟩ := List.mem_filter.mp hx
        obtain ⟨n, q, hq, p⟩ := h x h1
        rcases List.mem_cons.mp hq with rfl | hq
        · rw [decide_eq_true p] at h2
          cases h2
        · exact ⟨n, q, hq, p⟩
      have all := (List.filter_append_perm (fun x => decide (x <+: r)) gs).length_eq
      rw [List.length_append] at all
      rw [List.map_cons, List.sum_cons]
      omega
  have nd := bef_nodup a.up
  have l2 := sub rs (gs.filter fun x => decide (x ≠ [])) (List.Pairwise.filter _ nd) fun x hx => by
    obtain ⟨h1, h2⟩ := List.mem_filter.mp hx
    have n : x ≠ [] := of_decide_eq_true h2
    rcases (a.mem x).mp h1 with e | z
    · exact absurd e n
    · exact ⟨n, z⟩
  have all := (List.filter_append_perm (fun x => decide (x ≠ [])) gs).length_eq
  rw [List.length_append] at all
  have rest : (gs.filter fun x => !decide (x ≠ [])).length ≤ 1 := by
    exact List.Nodup.length_le_of_subset (l₂ := [[]]) (List.Pairwise.filter (fun x => !decide (x ≠ [])) nd) fun x hx => by
      have h2 := (List.mem_filter.mp hx).2
      have : x = [] := by
        by_cases e : x = []
        · exact e
        · rw [decide_eq_true e] at h2
          cases h2
      rw [this]
      exact List.mem_singleton.mpr rfl
  omega
end Nm
namespace Nm
open PySem PySem.Spec PyProof.Rows L2 NmD PySem.SeqAt
section
variable {X : Cx}
/-! ### x in t, t a tuple of data -/
def rInT (K : PySem.W.Frag) (neg : Bool) : R2 := fun x y H Q => ∃ d ds, Dp K H x d ∧ Dp K H y (.tuple ds) ∧ shaped d = true ∧ shaped (.tuple ds) = true ∧ Q (.bl (xor neg (ds.any fun z => PyData.eqv z d))) H
theorem op_inT (hu : X.A.units + 65 < cLine) : OpR X (compareOp .In) (rInT X.K false) := by
  intro pins s σ H x y v u Q I rx ry ⟨d, ds, d1, d2, s1, s2, q⟩
  obtain ⟨as, r1⟩ := Dp.reads I d x v d1 rx
  obtain ⟨bs, r2⟩ := Dp.reads I (.tuple ds) y u d2 ry
  rw [Bool.false_xor] at q
  exact in_tuple_reads r2 r1 (canLay_of_shaped s2) (canLay_of_shaped s1) (room_in_shaped s1 hu) ⟨.bl _, H, I, rfl, q⟩
theorem op_notInT (hu : X.A.units + 65 < cLine) : OpR X (compareOp .NotIn) (rInT X.K true) := by
  intro pins s σ H x y v u Q I rx ry ⟨d, ds, d1, d2, s1, s2, q⟩
  obtain ⟨as, r1⟩ := Dp.reads I d x v d1 rx
  obtain ⟨bs, r2⟩ := Dp.reads I (.tuple ds) y u d2 ry
  rw [Bool.true_xor] at q
  exact notIn_tuple_reads r2 r1 (canLay_of_shaped s2) (canLay_of_shaped s1) (room_in_shaped s1 hu) ⟨.bl _, H, I, rfl, q⟩
/-! ### t < u of tuples that are alike -/
def rLtDt (K : PySem.W.Frag) : R2 := fun x y H Q => ∃ xs ys, Dp K H x (.tuple xs) ∧ Dp K H y (.tuple ys) ∧ PySem.W.alikeAll xs ys = true ∧ PyData.depthAll xs ≤ 40 ∧ Q (.bl (PyProof.Rows.lexLt itemOrd (PySem.W.keyToksAll xs) (PySem.W.keyToksAll ys))) H
theorem op_ltDt (hu : X.A.units + 65 < cLine) : OpR X (compareOp .Lt) (rLtDt X.K) := by
  intro pins s σ H x y v u Q I rx ry ⟨xs, ys, d1, d2, al, dp, q⟩
  obtain ⟨as, r1⟩ := Dp.reads I (.tuple xs) x v d1 rx
  obtain ⟨bs, r2⟩ := Dp.reads I (.tuple ys) y u d2 ry
  have lim := dep xs ys dp
  refine PySem.W.rcLt_alike (.tuple xs) (.tuple ys) X.A s v u as bs r1 r2 (by simpa [PySem.W.alike] using al) (fun z => nomatch z) (by omega) _ _ _ _ ?_
  rw [PySem.W.dataLt_tuple]
  exact ⟨.bl _, H, I, rfl, q⟩
/-! ### dicts keyed by tuples -/
theorem dset_tk {pins : List (Addr × Obj)} {σ : L2.St} {H : Hp} {s : Shared} {E : Value → Shared → Prop} {D b : Addr} {ents : List (List Key × V)} {k : List Key} {y : V} {r : Value} {Q : Unit → Shared → Prop} (hu : X.A.units + 1 < cLine) (I : Inv X pins σ H s)
    (hD : H D = some (.dT ents)) (hb : H b = some (.tup (k.map kV))) (few : ents.length < sizeLine) (rv : RelV y r) (h : ∀ s', Inv X pins σ (upd H D (.dT (putK ents k y))) s' → Q () s') : wpAny (model X.prog X.w) X.A (dictSet D (.ref b) r) Q E s := by
  obtain ⟨z, low, xs, rel, dd⟩ := dt_of I.hok hD
  have fit : xs.length ≤ sizeLine := (Paired.length rel) ▸ z
  have more := length_putK ents k y
  refine wpAny_dictSet_heap (hsz := fit) (by show X.A.units < cLine; omega) (key_of I.hok hb) dd fun h' nd sb => h _ ?_
  obtain ⟨ob, es, ep, g1, g2, g3, g4, _, g5⟩ := nd
  refine d_write I (by rw [hD]; exact True.intro) sb ⟨ob, g1⟩ ⟨by omega, low, _, (rel.put k hb rv).keeps fun c us ec => ?_, ob, es, ep, g1, g2, g3, g4, g5⟩
  rw [upd_ne (ne_of ec hD (fun z => nomatch z))]
  exact ec
/-- {k: v}, k a tuple -/
def tDisp1 (tk tv : TE) : TE := fun σ H Q => ∀ p, H p = none → tk σ (upd H p (.dT [])) fun x H1 => tv σ H1 fun y H2 => H2 p = some (.dT []) ∧ ∃ (k : List Key) (b : Addr), x = .ref b ∧ H2 b = some (.tup (k.map kV)) ∧ Q (.ref p) (upd H2 p (.dT [(k, y)]))
theorem pe_disp1 {kx vx : Expr} {pos : Pos} {tk tv : TE} (hu : X.A.units + 1 < cLine) (hk : PE X kx tk) (hv : PE X vx tv) : PE X (.Dict [some kx] [vx] pos) (tDisp1 tk tv) := by
  refine ⟨fun pins s σ H Q I q => ?_⟩
  have free := I.hok.fresh (Nat.le_refl s.heap.objs.size)
  have I1 := I.laid (a := s.heap.objs.size) (o := .dT []) (h' := s.heap.push { cls := .type "dict", data := .dict #[] }) (t' := s.toks) (fun _ _ e => Heap.get?_push_of_some _ e) (Nat.le_refl _) (dt_empty s.heap I.big)
  have room : (tupleKind (mixKind X.prog X.w)).room X.A := by show X.A.units < cLine; omega
  rw [arm_eval_Dict, zip_pairTrees [some kx] [vx] X.env pos rfl rfl, dictDisplay_pairs (pairTrees [some kx] [vx] X.env pos) (fun e => by have z := congrArg List.length e; rw [pairTrees_length _ _ _ _ rfl rfl] at z; cases z) (by rw [pairTrees_length _ _ _ _ rfl rfl]; exact (by decide : (1 : Nat) < 17))]
  refine wpAny_bind (wpAny_standAt (wpAny_bind (wpAny_subDictH (knd := tupleKind (mixKind X.prog X.w)) room (by rw [pairTrees_length _ _ _ _ rfl rfl]; exact (by decide : (1 : Nat) ≤ 15)) ?_)))
  refine pairTrees_cons_walk (thn (hk.run pins _ σ _ _ I1 (q _ free)) fun u s1 ⟨x, H1, I2, rx, q1⟩ => thn (hv.run pins s1 σ H1 _ I2 q1) fun w2 s2 ⟨y, H2, I3, ry, q2⟩ => pairTrees_nil_walk ?_)
  obtain ⟨e, k, b, rfl, hb, q3⟩ := q2
  cases (show u = Value.ref b from rx)
  obtain ⟨_, low, xs, rel, dd⟩ := dt_of I3.hok e
  cases rel
  refine ⟨[(k, b, w2)], ⟨rfl, rfl, key_of I3.hok hb, trivial⟩, dd, fun h' tk nd sb => wpAny_pure ⟨.ref s.heap.objs.size, _, ?_, rfl, q3⟩⟩
  obtain ⟨ob, es, ep, g1, g2, g3, g4, _, g5⟩ := nd
  refine d_write I3 (by rw [e]; exact True.intro) sb ⟨ob, g1⟩ ⟨by show 1 ≤ sizeLine; decide, low, _, KT.keeps (H := H2) (Paired.cons ⟨rfl, hb, ry⟩ Paired.nil) fun c us ec => ?_, ob, es, ep, g1, g2, g3, g4, g5⟩
  rw [upd_ne (ne_of ec e (fun z => nomatch z))]
  exact ec
/-! ### {row: v for row in ..} -/
/-- what a dict made by a walk asks, its keys being tuples -/
def tDcT (wi : TI) (g : TG) (tk tv : TE) (vs : List Nat) : TE := fun σ H Q => wi σ H fun J H1 => ∀ D, H1 D = none → ∃ W : Nat → Nat → Hp → Prop,
  (∃ m, W 0 m (upd H1 D (.dT []))) ∧ ∀ i m H, W i m H → (J.stop i H ∧ Q (.ref D) H) ∨ (J.go i H ∧ ∃ Nx : Hp → Prop, (∀ H', Nx H' → ∃ m', m' < m ∧ W (i + 1) m' H') ∧
    ∀ x H', J.yld i H x H' → g x (wipe σ vs) H' fun σ2 H2 => wipe σ2 vs = wipe σ vs ∧ tk σ2 H2 fun y H4 => tv σ2 H4 fun z H5 =>
      ∃ (ents : List (List Key × V)) (k : List Key) (b : Addr), y = .ref b ∧ H5 D = some (.dT ents) ∧ H5 b = some (.tup (k.map kV)) ∧ ents.length < sizeLine ∧ Nx (upd H5 D (.dT (putK ents k z))))
theorem pe_dcT {kx vx tg iter : Expr} {scope : Scope} {own : List (PySem.Str × Nat)} {pos : Pos} {wi : TI} {g : TG} {tk tv : TE} (hc : X.calm = true) (hN : X.N.Nodup) (hu : X.A.units + 1 < cLine) (hi : PI X tg iter wi) (ok : BlkOk X.N X.env.scope scope own)
    (hg : ∀ (s : Shared) (H : Hp) (C : Addr) (cl : List (PySem.Str × Addr)) (fp : List Addr), PG (X.blk s H scope (compEnvC scope cl C X.env) fp) tg g)
    (hk : ∀ (s : Shared) (H : Hp) (C : Addr) (cl : List (PySem.Str × Addr)) (fp : List Addr), PE (X.blk s H scope (compEnvC scope cl C X.env) fp) kx tk)
    (he : ∀ (s : Shared) (H : Hp) (C : Addr) (cl : List (PySem.Str × Addr)) (fp : List Addr), PE (X.blk s H scope (compEnvC scope cl C X.env) fp) vx tv)
    (hs : ∀ x, foldedSetIterable iter X.env x = pure x := by intro _; rfl) : PE X (.DictComp kx vx [⟨tg, iter, [], 0⟩] scope pos) (tDcT wi g tk tv (own.map (·.2))) := by
  refine ⟨fun pins s σ H Q I h => ?_⟩
  rw [arm_eval_DictComp]
  have closed : ∀ y ∈ scope.names, y.2 = .free → ∃ c, X.env.cells.lookup y.1 = some c := fun y hy e => (ok.free y hy e).elim (fun k => I.ok.has _ (.inl k)) fun k => I.ok.has _ (.inr k)
  refine wpAny_comprehension_free (use := none) rfl hs (closure_ok closed) ok.kind (fun y hy e => by rw [ok.uniq y hy, e]) (thn (hi.run pins s σ H _ I h) fun xv s1 hx => thn hx fun itv s2 h2 => ?_)
  obtain ⟨it, fp, tn, J, H2, e, I2, T, st2, f2, q⟩ := h2
  subst e
  refine wpAny_newObj_type (newEnv_comp ?_)
  generalize hD : s2.heap.objs.size = D
  have hDn : H2 D = none := I2.hok.fresh (Nat.le_of_eq hD)
  obtain ⟨W, ⟨m0, w0⟩, turn⟩ := q D hDn
  generalize hs3 : ({ s2 with heap := s2.heap.push { cls := .type "dict", data := .dict #[] } } : Shared) = s3
  have h3 : s3.heap = s2.heap.push { cls := .type "dict", data := .dict #[] } := by rw [← hs3]
  generalize hH3 : upd H2 D (.dT []) = H3 at w0
  have I3 : Inv X pins σ H3 s3 := by
    rw [← hs3, ← hH3]
    refine I2.laid (t' := s2.toks) (fun b o e => Heap.get?_push_of_some _ e) (Nat.le_of_eq hD) ?_
    rw [← hD]
    exact dt_empty s2.heap I2.big
  have below : ∀ b ∈ fp, b < s2.heap.objs.size := fun b hb => by
    obtain ⟨o, e, _⟩ := T.obj _ _ st2 b hb
    exact Heap.lt_size e
  have f3 : ∀ b ∈ fp, FpOk X pins H3 b ∧ b < s3.heap.objs.size := fun b hb => by
    have lt := below b hb
    have ne : b ≠ D := by rw [← hD]; exact Nat.ne_of_lt lt
    refine ⟨⟨?_, (f2 b hb).2⟩, by rw [h3, Heap.size_push]; exact Nat.lt_succ_of_lt lt⟩
    rw [← hH3, upd_ne ne]
    exact (f2 b hb).1
  have st3 : tn 0 s3.heap := T.keep _ _ _ st2 fun b _ o e => by rw [h3]; exact Heap.get?_push_of_some _ e
  have I4 := block_start I3 ok hN f3
  generalize hcl : cellsFrom (s3.heap.objs.size + 1) scope.names (cloFrom X.env.cells scope.names []) = cl at I4
  have pg := hg s3 H3 s3.heap.objs.size cl fp
  have pk := hk s3 H3 s3.heap.objs.size cl fp
  have pe := he s3 H3 s3.heap.objs.size cl fp
  have goal : codeAny (model X.prog X.w) X.A (.compStart (.DictComp kx vx [⟨tg, iter, [], 0⟩] scope pos) 0 (.ref it) (.ref D) (compEnvC scope cl s3.heap.objs.size X.env))
      (compPost (model X.prog X.w) X.A X.xe none (EP X pins σ Q) (.ref D) s3.heap.objs.size) { s3 with heap := pushCells (s3.heap.push { cls := .type "dict", data := .dict #[] }) scope.names } := by
    have free3 : ∀ b ∈ fp, H3 b = none := fun b hb => (f3 b hb).1.1
    generalize hce : compEnvC scope cl s3.heap.objs.size X.env = ce at I4 pg pk pe ⊢
    have locals : ce.locals = s3.heap.objs.size := by subst hce; rfl
    generalize hs4 : ({ s3 with heap := pushCells (s3.heap.push { cls := .type "dict", data := .dict #[] }) scope.names } : Shared) = s4 at I4 ⊢
    have st4 : tn 0 s4.heap := T.keep _ _ _ st3 fun b _ o e => by rw [← hs4]; exact pushCells_keeps _ _ _ _ (Heap.get?_push_of_some _ e)
    have stat : ∀ {σ' : L2.St} {H' : Hp} {s' : Shared}, Inv (X.blk s3 H3 scope ce fp) [] σ' H' s' → (∀ b ∈ fp, H' b = none) → ∀ b ∈ fp, FpOk (X.blk s3 H3 scope ce fp) [] H' b := fun {σ' H' s'} I' hn b hb =>
      ⟨hn b hb, (I'.ok.exf b hb).1, I'.ok.exfs b hb, .inl hb, fun x c e => (I'.ok.exf b hb).2 x c e, fun p hp => absurd (show p ∈ ([] : List (Addr × Obj)) ++ [] from hp) (by simp)⟩
    have loop : codeAny (model X.prog X.w) X.A (.compLoop (.DictComp kx vx [⟨tg, iter, [], 0⟩] scope pos) 0 (.ref it) (.ref D) ce) (compPost (model X.prog X.w) X.A X.xe none (EP X pins σ Q) (.ref D) s3.heap.objs.size) s4 := by
      refine compLoop_anyD (fun n s' => ∃ i H', Inv (X.blk s3 H3 scope ce fp) [] (wipe σ (own.map (·.2))) H' s' ∧ tn i s'.heap ∧ (∀ b ∈ fp, H' b = none) ∧ W i n H') ?_ m0 ⟨0, H3, I4, st4, free3, w0⟩
      rintro n s5 ⟨i, H5, I5, st5, n5, w5⟩
      rcases turn i n H5 w5 with ⟨stop, qq⟩ | ⟨go, Nx, hNx, step⟩
      · refine thnF (T.done (X.blk s3 H3 scope ce fp) rfl rfl rfl hc i [] s5 _ H5 (fun _ _ => False) I5 (stat I5 n5) st5 stop) fun r s6 ⟨hr, I6⟩ => ?_
        subst hr
        have I7 : Inv X pins σ H5 s6 := I3.call' (ch := fp) I6.os I6.base I6.hok I6.bare fun b hb => by
          have z := (f3 b hb).1
          exact ⟨z.2.2.2.1, z.2.1, z.2.2.2.2.1, z.2.2.2.2.2⟩
        have nC : H5 s3.heap.objs.size = none := by
          rw [← locals]
          exact I6.free
        obtain ⟨m, hn, _⟩ := I6.loc
        have hn' : s6.heap.Ns s3.heap.objs.size m := by
          rw [← locals]
          exact hn
        refine ⟨m, hn', fun h'' sb => ?_⟩
        obtain ⟨z0, z1, z2, z3, z4, z5⟩ := I3.fpOk (Nat.le_refl _) nC
        exact ⟨.ref D, H5, I7.turned (t' := s6.toks) (fun b o hb e => (sb.2 b hb).trans e) z0 z1 z3 z4 z5, rfl, qq⟩
      · refine thnF (T.item (X.blk s3 H3 scope ce fp) rfl rfl rfl hc i [] s5 _ H5 (fun _ _ => False) I5 (stat I5 n5) st5 go) fun r s6 ⟨u, hr, h6⟩ => ?_
        subst hr
        refine thnF h6 fun _ s7 ⟨x, H7, I7, r7, y7, st7, n7⟩ => ?_
        have I7' := I7.pinned (stat I7 n7) (T.obj _ _ st7)
        refine thnF (pg.run _ s7 _ H7 x u _ I7' r7 (step x H7 y7)) fun _ s8 ⟨σ8, H8, I8, hw8, q8⟩ => ?_
        refine wpAny_pure ?_
        rw [if_pos rfl]
        refine thnF (pk.run _ s8 σ8 H8 _ I8 q8) fun z s10 ⟨yv, H10, I10, r10, q10⟩ => ?_
        refine thnF (pe.run _ s10 σ8 H10 _ I10 q10) fun z2 s11 ⟨zv, H11, I11, r11, ents, k, b, ey, hD11, hb11, room, nx⟩ => ?_
        subst ey
        cases (show z = Value.ref b from r10)
        refine dset_tk (X := X.blk s3 H3 scope ce fp) hu I11 hD11 hb11 room r11 fun s12 I12 => ?_
        obtain ⟨m', hm, w'⟩ := hNx _ nx
        have pin' : ∀ c ∈ fp, ∀ o, s7.heap.get? c = some o → s12.heap.get? c = some o ∧ upd H11 D (.dT (putK ents k zv)) c = none := fun c hc' o e =>
          let z := I12.pin (c, o) (List.mem_append_right _ (List.mem_append_right _ (mem_pinsAt hc' e)))
          ⟨z.1, z.2.1⟩
        have len : (wipe σ (own.map (·.2))).length = σ8.length := by rw [← hw8, wipe_length]
        refine ⟨m', hm, i + 1, _, (I12.unpinned (pins := [])).weak len (fun j v e => ?_), T.keep _ _ _ st7 fun c hc' o e => (pin' c hc' o e).1, fun c hc' => ?_, w'⟩
        · rw [← hw8] at e
          exact (wipe_some e).1
        · obtain ⟨o, e, _⟩ := T.obj _ _ st7 c hc'
          exact (pin' c hc' o e).2
    exact codeAny_compStart_dict loop (T.self X.A 0 _ _ _ st4 loop)
  exact goal
/-- the same over a tuple that stands still -/
theorem dcT_tup {K : PySem.W.Frag} {a : Addr} {xs : List V} {g : TG} {tk tv : TE} {vs : List Nat} {σ : L2.St} {H1 : Hp} {D : Addr} {Qd : Hp → Prop} (Pv : Nat → Hp → Prop) (h0 : Pv 0 (upd H1 D (.dT [])))
    (hl : ∀ i H, i ≤ xs.length → Pv i H → SqT K H a xs)
    (hs : ∀ i x H, xs[i]? = some x → Pv i H → g x (wipe σ vs) H fun σ2 H2 => wipe σ2 vs = wipe σ vs ∧ tk σ2 H2 fun y H4 => tv σ2 H4 fun z H5 =>
      ∃ (ents : List (List Key × V)) (k : List Key) (b : Addr), y = .ref b ∧ H5 D = some (.dT ents) ∧ H5 b = some (.tup (k.map kV)) ∧ ents.length < sizeLine ∧ Pv (i + 1) (upd H5 D (.dT (putK ents k z)))) (hd : ∀ H, Pv xs.length H → Qd H) :
    ∃ W : Nat → Nat → Hp → Prop, (∃ m, W 0 m (upd H1 D (.dT []))) ∧ ∀ i m H, W i m H → ((Itt K a).stop i H ∧ Qd H) ∨ ((Itt K a).go i H ∧ ∃ Nx : Hp → Prop, (∀ H', Nx H' → ∃ m', m' < m ∧ W (i + 1) m' H') ∧
      ∀ x H', (Itt K a).yld i H x H' → g x (wipe σ vs) H' fun σ2 H2 => wipe σ2 vs = wipe σ vs ∧ tk σ2 H2 fun y H4 => tv σ2 H4 fun z H5 =>
        ∃ (ents : List (List Key × V)) (k : List Key) (b : Addr), y = .ref b ∧ H5 D = some (.dT ents) ∧ H5 b = some (.tup (k.map kV)) ∧ ents.length < sizeLine ∧ Nx (upd H5 D (.dT (putK ents k z)))) := by
  refine ⟨fun i m H => m = xs.length - i ∧ i ≤ xs.length ∧ Pv i H, ⟨xs.length, by simp, Nat.zero_le _, h0⟩, ?_⟩
  rintro i m H ⟨rfl, hi, p⟩
  have q := hl i H hi p
  rcases Nat.lt_or_ge i xs.length with lt | ge
  · refine .inr ⟨⟨xs, xs[i], q, by simp [lt]⟩, Pv (i + 1), fun H' p' => ⟨xs.length - (i + 1), by omega, rfl, lt, p'⟩, fun x H' y => ?_⟩
    obtain ⟨e, y⟩ := y
    subst e
    exact hs i x _ (y xs q) p
  · have e : i = xs.length := by omega
    subst e
    exact .inl ⟨⟨xs, q, Nat.le_refl _⟩, hd H p⟩
/-! ### sorted(d), the keys being rows of texts -/
def keyRow (ws : List Str) : List Key := ws.map Sum.inr
theorem kV_row (ws : List Str) : (keyRow ws).map kV = ws.map V.str := by
  unfold keyRow
  rw [List.map_map]
  rfl
/-- what stands at a tuple's address -/
def tupOf (H : Hp) (x : V) : List V := match x with
  | .ref a => match H a with | some (.tup xs) => xs | _ => []
  | _ => []
def strOf : V → Str
  | .str z => z
  | _ => Str.empty
/-- the row of texts that is told by a value -/
def rowOf (H : Hp) (x : V) : List Str := (tupOf H x).map strOf
theorem rowOf_at {H : Hp} {a : Addr} {ws : List Str} (h : H a = some (.tup (ws.map V.str))) : rowOf H (.ref a) = ws := by
  unfold rowOf tupOf
  simp only [h]
  rw [List.map_map]
  exact List.map_id' ws
def rSortKD : List V → Hp → VK → Prop := fun vs H Q => ∃ (d : Addr) (rs : List (List Str)) (ents : List (List Key × V)), vs = [V.ref d] ∧ H d = some (.dT ents) ∧ ents.map (·.1) = rs.map keyRow ∧
  ∀ (bs ys : List V) (p : Addr), Paired (fun (b : V) (ws : List Str) => ∃ a, b = V.ref a ∧ H a = some (.tup (ws.map V.str))) bs rs →
    SrtO.Srtd (ltV fun x => rowL (rowOf H x)) ys → SrtO.Stb (ltV fun x => rowL (rowOf H x)) ys bs → H p = none → Q (.ref p) (upd H p (.lst ys))
theorem keys_rows {H : Hp} : ∀ {ents : List (List Key × V)} {xs : List (List Key × Addr × Value)} {rs : List (List Str)}, KT H ents xs → ents.map (·.1) = rs.map keyRow →
    Paired (fun (b : V) (ws : List Str) => ∃ a, b = V.ref a ∧ H a = some (.tup (ws.map V.str))) (xs.map fun x => V.ref x.2.1) rs
  | _, _, [], r, e => by
    cases r with
    | nil => exact .nil
    | cons _ _ => cases e
  | _, _, ws :: rs, r, e => by
    cases r with
    | nil => cases e
    | cons h t =>
      rw [List.map_cons, List.map_cons] at e
      injection e with e1 e2
      obtain ⟨_, h2, _⟩ := h
      rw [e1, kV_row] at h2
      exact .cons ⟨_, rfl, h2⟩ (keys_rows t e2)
theorem ref_vals : ∀ as : List Addr, Vals (as.map V.ref) (as.map Value.ref)
  | [] => .nil
  | _ :: as => .cons rfl (ref_vals as)
theorem cr_sortKD (hc : X.calm = true) (hu : X.A.units + 66 < cLine) : CallR X (.builtin "sorted") rSortKD := by
  intro pins s σ H vs us Q I r ⟨d, rs, ents, e0, hd, hk, q⟩
  subst e0
  rw [Vals.ref1 r]
  obtain ⟨zf, low, xs, pr, o, es, ep, ho, hx, hdt, he, _, _⟩ := dt_of I.hok hd
  have l1 : es.size = xs.length := size_of_entries he
  have l2 : ents.length = xs.length := Paired.length pr
  refine Calls.call_function_entry kind_sorted plain_sorted entry_sorted (args_sorted1 _) ?_
  unfold Builtin.«sorted»
  refine wpAny_bind (m := checkCount "sorted" 1 1 _) (wpAny_pure ?_)
  refine wpAny_bind (PySem.W.kdu_collect (A := X.A.in1) (kdl_raw low hx hdt) (I.ok.hd hc) ho (by omega) fun h' tk acc kp it => ?_)
  have ea : acc.toList = (xs.map fun x => x.2.1).map Value.ref := by
    have len : acc.toList.length = xs.length := by rw [Array.length_toList, it.1]; exact l1
    apply List.ext_getElem?
    intro j
    rw [List.getElem?_map, List.getElem?_map]
    cases hj : acc.toList[j]? with
    | none =>
      have := List.getElem?_eq_none_iff.mp hj
      rw [List.getElem?_eq_none (by omega)]
      rfl
    | some v =>
      obtain ⟨en, hen, hv⟩ := it.2 j v (by rw [← Array.getElem?_toList]; exact hj)
      have w := entry_at he j
      rw [hen] at w
      cases hb : xs[j]? with
      | none =>
        rw [hb] at w
        cases w
      | some b =>
        rw [hb] at w
        have e2 : en = entryOfKey (tupleKind (mixKind X.prog X.w)) b := Option.some.inj w
        rw [hv, e2]
        rfl
  have I1 : Inv X pins σ H { s with heap := h', toks := tk } := I.kept kp
  have hz : acc.toList.length ≤ sizeLine := by rw [ea, List.length_map, List.length_map]; omega
  refine wpAny_bind (wpAny_newList ?_ hz)
  have pb := keys_rows pr hk
  have gb : ∀ v ∈ acc.toList, ∃ (a : Addr) (ws : List Str), v = Value.ref a ∧ H a = some (.tup (ws.map V.str)) := fun v hv => by
    rw [ea] at hv
    obtain ⟨a, ha, rfl⟩ := List.mem_map.mp hv
    have ha' : V.ref a ∈ xs.map fun x => V.ref x.2.1 := by
      obtain ⟨x, hx1, hx2⟩ := List.mem_map.mp ha
      exact List.mem_map.mpr ⟨x, hx1, by rw [hx2]⟩
    obtain ⟨i, hi⟩ := List.mem_iff_getElem?.mp ha'
    obtain ⟨ws, _, a', e, h2⟩ := paired_at pb i _ hi
    cases e
    exact ⟨a, ws, rfl, h2⟩
  have R : NmD.Rows h' acc.toList (fun u => rowL (rowOf H (backV u))) := by
    refine ⟨fun v hv => ?_, fun v hv => pure_rowL _, fun v hv u hu => alike_rowL _ _, fun v hv => by rw [depth_rowL]; decide⟩
    obtain ⟨a, ws, rfl, ha⟩ := gb v hv
    show ∃ as, Reads h' (.ref a) (.tuple (rowL (rowOf H (.ref a)))) as
    rw [rowOf_at ha]
    exact Dp.reads I1 _ (.ref a) (.ref a) (dp_row ha) rfl
  have hoL : (h'.push (seqObj "list" acc.toList.toArray 0)).get? h'.objs.size = some (seqObj "list" acc.toList.toArray 0) := Heap.get?_push_size _ rfl
  show wpAny _ _ _ _ _ { s with heap := h'.push (seqObj "list" acc.toList.toArray 0), toks := tk }
  refine wpAny_bind (wpAny_holding (wpAny_call_entry slot_list_sort ⟨_, hoL, rfl⟩ entry_list_sort
    (SrtO.list_sort_ord (s := { s with heap := h'.push (seqObj "list" acc.toList.toArray 0), toks := tk }) (NmD.ltD_swo fun u => rowL (rowOf H (backV u))) hoL hz
      (fun two => NmD.rows_sortable (s := { s with heap := h'.push (seqObj "list" acc.toList.toArray 0), toks := tk }) (R.keep fun b ob e _ => Heap.get?_push_of_some _ e) (by show X.A.units + 1 + 1 + 64 < cLine; omega) (by omega) fun ob e => ?_)
      fun out h1 h2 => ⟨_, rfl, ?_⟩) (args_list_sort _)))
  · have e' : some ob = some (seqObj "list" acc.toList.toArray 0) := e.symm.trans hoL
    cases e'
    intro c
    exact absurd (Value.type.inj c) (by decide)
  · obtain ⟨n, hn⟩ := sortedHeap_at (vs := acc.toList) (out := out.toArray) hoL
    have allRef : ∀ u ∈ out, ∃ a, u = Value.ref a := fun u hu => by
      obtain ⟨a, _, e, _⟩ := gb u (h2.perm.mem_iff.mp hu)
      exact ⟨a, e⟩
    have eb : acc.toList.map backV = xs.map fun x => V.ref x.2.1 := by
      rw [ea, List.map_map, List.map_map]
      rfl
    have hb : SrtO.Stb (ltV fun x => rowL (rowOf H x)) (out.map backV) (xs.map fun x => V.ref x.2.1) := by
      rw [← eb]
      exact SrtO.Stb.map (ltV_swo _) backV h2
    have fit : (out.map backV).length ≤ sizeLine := by rw [hb.len, List.length_map]; omega
    refine wpAny_pure ⟨_, rfl, .ref h'.objs.size, upd H h'.objs.size (.lst (out.map backV)), I1.laid (t' := tk) (fun b u e => ?_) (Nat.le_refl _) ⟨fit, out, n, vals_back allRef, hn⟩, rfl, q _ _ _ pb (SrtO.srtd_map h1) hb (I1.hok.fresh (Nat.le_refl _))⟩
    have lt := Heap.lt_size e
    rw [sortedHeap_old (Nat.ne_of_lt lt) (by rw [size_push']; exact Nat.lt_succ_of_lt lt)]
    exact Heap.get?_push_of_some _ e
end
end Nm
namespace Nm
open PySem PySem.Spec PyProof.Rows L2 NmD
/-- all tuples stand -/
def Tups (H H' : Hp) : Prop := ∀ a xs, H a = some (.tup xs) → H' a = some (.tup xs)
theorem Tups.refl (H : Hp) : Tups H H := fun _ _ h => h
theorem Tups.trans {H H1 H2 : Hp} (a : Tups H H1) (b : Tups H1 H2) : Tups H H2 := fun c o h => b c o (a c o h)
theorem tups_same {H H' : Hp} (g : Same H H') : Tups H H' := fun a xs h => g a _ h
theorem tups_lst {H : Hp} {D : Addr} {us vs : List V} (h : H D = some (.lst us)) : Tups H (upd H D (.lst vs)) := fun a xs e => by
  rw [upd_ne (fun z => by rw [z, h] at e; cases e)]
  exact e
theorem tups_dT {H : Hp} {D : Addr} {us vs : List (List Key × V)} (h : H D = some (.dT us)) : Tups H (upd H D (.dT vs)) := fun a xs e => by
  rw [upd_ne (fun z => by rw [z, h] at e; cases e)]
  exact e
/-- a tuple of things that are told by β -/
def TupOf {β : Type} (R : Hp → V → β → Prop) (H : Hp) (a : Addr) (bs : List β) : Prop := ∃ xs, H a = some (.tup xs) ∧ Paired (R H) xs bs
def LstOf {β : Type} (R : Hp → V → β → Prop) (H : Hp) (a : Addr) (bs : List β) : Prop := ∃ xs, H a = some (.lst xs) ∧ Paired (R H) xs bs
/-- what is told stays as long as tuples do -/
def Stays {β : Type} (R : Hp → V → β → Prop) : Prop := ∀ H H' x b, Tups H H' → R H x b → R H' x b
theorem TupOf.keep {β : Type} {R : Hp → V → β → Prop} (st : Stays R) {H H' : Hp} (t : Tups H H') {a : Addr} {bs : List β} (h : TupOf R H a bs) : TupOf R H' a bs := by
  obtain ⟨xs, h1, h2⟩ := h
  exact ⟨xs, t _ _ h1, paired_mono (fun _ _ => st _ _ _ _ t) h2⟩
theorem stays_tup {β : Type} {R : Hp → V → β → Prop} (st : Stays R) : Stays (fun H x (bs : List β) => ∃ a, x = V.ref a ∧ TupOf R H a bs) := fun H H' x bs t ⟨a, e, h⟩ => ⟨a, e, h.keep st t⟩
theorem LstOf.same {β : Type} {R : Hp → V → β → Prop} (st : Stays R) {H H' : Hp} (g : Same H H') {a : Addr} {bs : List β} (h : LstOf R H a bs) : LstOf R H' a bs := by
  obtain ⟨xs, h1, h2⟩ := h
  exact ⟨xs, g _ _ h1, paired_mono (fun _ _ => st _ _ _ _ (tups_same g)) h2⟩
/-- a word -/
def StrV (_ : Hp) (x : V) (z : Str) : Prop := x = .str z
theorem stays_str : Stays StrV := fun _ _ _ _ _ h => h
theorem strs_vs {H : Hp} : ∀ {xs : List V} {zs : List Str}, Paired (StrV H) xs zs → xs = zs.map V.str
  | _, _, .nil => rfl
  | _, _, .cons h t => by
    rw [show _ = V.str _ from h, strs_vs t]
    rfl
theorem strs_pv {H : Hp} : ∀ zs : List Str, Paired (StrV H) (zs.map V.str) zs
  | [] => .nil
  | _ :: zs => .cons rfl (strs_pv zs)
def BlV (_ : Hp) (x : V) (b : Bool) : Prop := x = .bl b
theorem stays_bl : Stays BlV := fun _ _ _ _ _ h => h
theorem bls_vs {H : Hp} : ∀ {xs : List V} {bs : List Bool}, Paired (BlV H) xs bs → xs = bs.map V.bl
  | _, _, .nil => rfl
  | _, _, .cons h t => by
    rw [show _ = V.bl _ from h, bls_vs t]
    rfl
def IntV (_ : Hp) (x : V) (n : Int) : Prop := x = .int n
theorem stays_int : Stays IntV := fun _ _ _ _ _ h => h
theorem ints_vs {H : Hp} : ∀ {xs : List V} {ns : List Int}, Paired (IntV H) xs ns → xs = ns.map V.int
  | _, _, .nil => rfl
  | _, _, .cons h t => by
    rw [show _ = V.int _ from h, ints_vs t]
    rfl
/-- a row -/
def RwAt (H : Hp) (x : V) (ws : List Str) : Prop := ∃ r, x = .ref r ∧ H r = some (.tup (ws.map V.str))
theorem stays_rw : Stays RwAt := fun _ _ _ _ t ⟨r, e, h⟩ => ⟨r, e, t _ _ h⟩
abbrev GmAt := TupOf RwAt
abbrev GlAt := LstOf RwAt
theorem GmAt.keep {H H' : Hp} (t : Tups H H') {a : Addr} {rs : List (List Str)} (h : GmAt H a rs) : GmAt H' a rs := TupOf.keep stays_rw t h
theorem paired_fmap {α β γ : Type} {R : α → β → Prop} (f : β → Bool) (g : β → γ) (l : List β) (i : Nat) (b : β) (h : l[i]? = some b) : ((l.take (i + 1)).filter f).map g = ((l.take i).filter f).map g ++ (if f b = true then [g b] else []) := by
  rw [take_one h, List.filter_append, List.map_append]
  by_cases c : f b = true
  · rw [if_pos c, List.filter_cons_of_pos c]
    rfl
  · rw [if_neg c, List.filter_cons_of_neg c]
    rfl
theorem fmap_one {β γ : Type} (f : β → Bool) (g : β → γ) (l : List β) (i : Nat) (b : β) (h : l[i]? = some b) : ((l.take (i + 1)).filter f).map g = ((l.take i).filter f).map g ++ (if f b = true then [g b] else []) := by
  rw [take_one h, List.filter_append, List.map_append]
  by_cases c : f b = true
  · rw [if_pos c, List.filter_cons_of_pos c]
    rfl
  · rw [if_neg c, List.filter_cons_of_neg c]
    rfl
theorem fmap_len {β γ : Type} (f : β → Bool) (g : β → γ) (l : List β) (i : Nat) : (((l.take i).filter f).map g).length ≤ l.length := by
  rw [List.length_map]
  exact Nat.le_trans (List.length_filter_le _ _) (by rw [List.length_take]; exact Nat.min_le_right _ _)
/-- a comprehension that only reads: over n items bs, those with f, each made by m; what is made is told by R -/
theorem lcS {J : It} {n : Nat} {G : Hp → Prop} {Y : Nat → Hp → V → Hp → Prop} (wk : Walk J n G Y) {β γ : Type} {R : Hp → V → γ → Prop} (st : Stays R) (bs : List β) (f : β → Bool) (m : β → γ) {H0 : Hp} (hn : n = bs.length) (hz : bs.length ≤ 100000) (hG : ∀ H, Same H0 H → G H)
    {g : TG} {tt : TT} {te : TE} {vs : List Nat} {σ : L2.St} {D : Addr} {Qd : Hp → Prop} (hD : H0 D = none)
    (hs : ∀ (i : Nat) (x : V) (b : β) (H H' : Hp) (Nx : Hp → Prop), bs[i]? = some b → Y i H x H' → Same H0 H → (f b = false → ∀ H2, Same H H2 → Nx H2) →
      (f b = true → ∀ y H2, Same H H2 → R H2 y (m b) → ∃ acc, H2 D = some (.lst acc) ∧ acc.length < sizeLine ∧ Nx (upd H2 D (.lst (acc ++ [y])))) →
      g x (wipe σ vs) H' fun σ2 H2 => wipe σ2 vs = wipe σ vs ∧ tt σ2 H2 fun c H3 => if c = true then te σ2 H3 fun y H4 => ∃ acc, H4 D = some (.lst acc) ∧ acc.length < sizeLine ∧ Nx (upd H4 D (.lst (acc ++ [y]))) else Nx H3)
    (hd : ∀ H, Same H0 H → LstOf R H D ((bs.filter f).map m) → Qd H) :
    ∃ W : Nat → Nat → Hp → Prop, (∃ m, W 0 m (upd H0 D (.lst []))) ∧ ∀ i m H, W i m H → (J.stop i H ∧ Qd H) ∨ (J.go i H ∧ ∃ Nx : Hp → Prop, (∀ H', Nx H' → ∃ m', m' < m ∧ W (i + 1) m' H') ∧
      ∀ x H', J.yld i H x H' → g x (wipe σ vs) H' fun σ2 H2 => wipe σ2 vs = wipe σ vs ∧ tt σ2 H2 fun c H3 => if c = true then te σ2 H3 fun y H4 => ∃ acc, H4 D = some (.lst acc) ∧ acc.length < sizeLine ∧ Nx (upd H4 D (.lst (acc ++ [y]))) else Nx H3) := by
  subst hn
  have big : (100000 : Nat) < sizeLine := by decide
  refine lc_it wk (fun i H => Same H0 H ∧ LstOf R H D (((bs.take i).filter f).map m)) ⟨same_new hD, [], upd_same, .nil⟩ (fun i H _ p => hG H p.1) ?_ ?_
  · rintro i x H H' hi ⟨sm, acc, ha, pa⟩ hy
    have hb : bs[i]? = some bs[i] := List.getElem?_eq_getElem hi
    have la : acc.length ≤ bs.length := by
      rw [paired_len pa]
      exact fmap_len f m bs i
    refine hs i x _ H H' (fun H2 => Same H0 H2 ∧ LstOf R H2 D (((bs.take (i + 1)).filter f).map m)) hb hy sm (fun c H2 g2 => ⟨sm.trans g2, acc, g2 _ _ ha, ?_⟩) (fun c y H2 g2 r => ⟨acc, g2 _ _ ha, by omega, ?_⟩)
    · rw [fmap_one f m bs i _ hb, c, if_neg Bool.false_ne_true, List.append_nil]
      exact paired_mono (fun _ _ => st _ _ _ _ (tups_same g2)) pa
    · have t := tups_lst (vs := acc ++ [y]) (g2 _ _ ha)
      refine ⟨same_mut (sm.trans g2) hD, acc ++ [y], upd_same, ?_⟩
      rw [fmap_one f m bs i _ hb, c, if_pos rfl]
      exact paired_snoc (paired_mono (fun _ _ z => st _ _ _ _ t (st _ _ _ _ (tups_same g2) z)) pa) (st _ _ _ _ t r)
  · rintro H ⟨sm, l⟩
    rw [List.take_length] at l
    exact hd H sm l
theorem filter_all {β : Type} (bs : List β) : bs.filter (fun _ => true) = bs := List.filter_eq_self.mpr fun _ _ => rfl
/-! ### rows as data -/
theorem dpAll_rows {K : PySem.W.Frag} {H : Hp} : ∀ {xs : List V} {rs : List (List Str)}, Paired (RwAt H) xs rs → DpAll K H xs (rs.map rowD)
  | _, _, .nil => .nil
  | _, _, .cons ⟨r, e, h⟩ t => by
    subst e
    exact .cons (dp_row h) (dpAll_rows t)
abbrev gameD (rs : List (List Str)) : PyData := .tuple (rs.map rowD)
theorem dp_game {K : PySem.W.Frag} {H : Hp} {a : Addr} {rs : List (List Str)} (h : GmAt H a rs) : Dp K H (.ref a) (gameD rs) := by
  obtain ⟨xs, h1, h2⟩ := h
  exact .tup (SqT.of h1) (dpAll_rows h2)
theorem dp_gameL {K : PySem.W.Frag} {H : Hp} {a : Addr} {rs : List (List Str)} (h : GlAt H a rs) : Dp K H (.ref a) (.list (rs.map rowD)) := by
  obtain ⟨xs, h1, h2⟩ := h
  exact .lst (SqL.of h1) (dpAll_rows h2)
theorem eqv_rows : ∀ rs qs : List (List Str), PyData.eqvAll (rs.map rowD) (qs.map rowD) = decide (rs = qs)
  | [], [] => by simp [PyData.eqvAll]
  | [], _ :: _ => by simp [PyData.eqvAll]
  | _ :: _, [] => by simp [PyData.eqvAll]
  | r :: rs, q :: qs => by
    rw [List.map_cons, List.map_cons, PyData.eqvAll, eqv_rows rs qs, eqv_row]
    by_cases h1 : r = q <;> by_cases h2 : rs = qs <;> simp [h1, h2]
theorem eqv_game (rs qs : List (List Str)) : PyData.eqv (gameD rs) (gameD qs) = decide (rs = qs) := by rw [PyData.eqv, eqv_rows]
theorem any_row (q : List Str) : ∀ rs : List (List Str), ((rs.map rowD).any fun z => PyData.eqv z (rowD q)) = decide (q ∈ rs)
  | [] => by simp
  | r :: rs => by
    rw [List.map_cons, List.any_cons, any_row q rs, eqv_row]
    by_cases h : r = q
    · subst h
      simp
    · have h' : ¬ q = r := fun z => h z.symm
      simp [h, h']
theorem any_str (q : Str) : ∀ ws : List Str, ((rowL ws).any fun z => PyData.eqv z (.str q)) = decide (q ∈ ws)
  | [] => by simp
  | w :: ws => by
    rw [rowL_cons, List.any_cons, any_str q ws, PyData.eqv]
    by_cases h : w = q
    · subst h
      simp
    · have h' : ¬ q = w := fun z => h z.symm
      simp [h, h']
theorem lay_word {z : Str} (h : wordOk z) : PyData.canLay0 (.str z) = true := lay_let h.1
theorem shaped_rw {r : List Str} (h : ∀ z ∈ r, wordOk z) : SeqAt.shaped (rowD r) = true := shaped_row fun z hz => lay_word (h z hz)
theorem lay_rows : ∀ rs : List (List Str), (∀ r ∈ rs, ∀ z ∈ r, wordOk z) → PyData.canLayAll0 (rs.map rowD) = true ∧ PyData.depthAll (rs.map rowD) ≤ 1
  | [], _ => by simp [PyData.canLayAll0, PyData.depthAll]
  | r :: rs, h => by
    obtain ⟨h1, h2⟩ := lay_rows rs fun r hr => h r (List.mem_cons_of_mem _ hr)
    rw [List.map_cons, PyData.canLayAll0, h1, PyData.depthAll]
    have e : PyData.depth (rowD r) = 1 := by
      rw [PyData.depth, depth_rowL]
    refine ⟨?_, by omega⟩
    rw [PyData.canLay0, lay_rowL r fun z hz => lay_word (h r List.mem_cons_self z hz)]
    rfl
theorem shaped_game {rs : List (List Str)} (h : ∀ r ∈ rs, ∀ z ∈ r, wordOk z) : SeqAt.shaped (gameD rs) = true := by
  unfold SeqAt.shaped
  obtain ⟨h1, h2⟩ := lay_rows rs h
  rw [PyData.canLay0, h1, PyData.depth, Bool.true_and]
  exact decide_eq_true (by omega)
theorem shaped_gameL {rs : List (List Str)} (h : ∀ r ∈ rs, ∀ z ∈ r, wordOk z) : SeqAt.shaped (.list (rs.map rowD)) = true := by
  unfold SeqAt.shaped
  obtain ⟨h1, h2⟩ := lay_rows rs h
  rw [PyData.canLay0, h1, PyData.depth, Bool.true_and]
  exact decide_eq_true (by omega)
theorem shaped_wd {z : Str} (h : wordOk z) : SeqAt.shaped (.str z) = true := by
  unfold SeqAt.shaped
  rw [lay_word h, PyData.depth]
  rfl
/-! ### dicts keyed by rows -/
theorem inr_inj {a b : List Str} : keyRow a = keyRow b ↔ a = b := by
  constructor
  · intro h
    have := congrArg (List.map fun k : Key => match k with | .inr z => z | .inl _ => Str.empty) h
    unfold keyRow at this
    rw [List.map_map, List.map_map] at this
    exact (List.map_id a).symm.trans ((show List.map id a = List.map id b from this).trans (List.map_id b))
  · intro h
    rw [h]
/-- the keys, rows, and what is told of each -/
structure RDict {γ : Type} (R : V → γ → Prop) (ents : List (List Key × V)) (ks : List (List Str)) (val : List Str → γ) : Prop where
  keys : ents.map (·.1) = ks.map keyRow
  nd : ks.Nodup
  vals : ∀ e ∈ ents, ∀ k, e.1 = keyRow k → R e.2 (val k)
/-- the keys with one more -/
def plusR (ks : List (List Str)) (k : List Str) : List (List Str) := if k ∈ ks then ks else ks ++ [k]
theorem mem_plusR {ks : List (List Str)} {k x : List Str} : x ∈ plusR ks k ↔ x ∈ ks ∨ x = k := by
  unfold plusR
  by_cases h : k ∈ ks
  · rw [if_pos h]
    constructor
    · exact .inl
    · rintro (z | rfl)
      · exact z
      · exact h
  · rw [if_neg h, List.mem_append, List.mem_singleton]
theorem plusR_nd {ks : List (List Str)} (n : ks.Nodup) (k : List Str) : (plusR ks k).Nodup := by
  unfold plusR
  by_cases h : k ∈ ks
  · rw [if_pos h]
    exact n
  · rw [if_neg h]
    exact List.nodup_append.mpr ⟨n, List.pairwise_singleton _ _, fun a ha b hb e => h (by rw [← List.mem_singleton.mp hb, ← e]; exact ha)⟩
theorem key_any {ents : List (List Key × V)} {ks : List (List Str)} (h : ents.map (·.1) = ks.map keyRow) (k : List Str) : (ents.any fun e => decide (e.1 = keyRow k)) = decide (k ∈ ks) := by
  have e1 : (ents.any fun e => decide (e.1 = keyRow k)) = (ents.map (·.1)).any fun y => decide (y = keyRow k) := by
    rw [List.any_map]
    rfl
  rw [e1, h, List.any_map]
  by_cases m : k ∈ ks
  · rw [decide_eq_true m, List.any_eq_true]
    exact ⟨k, m, decide_eq_true rfl⟩
  · rw [decide_eq_false m, List.any_eq_false]
    intro x hx z
    exact m (inr_inj.mp (of_decide_eq_true z) ▸ hx)
theorem RDict.put {γ : Type} {R : V → γ → Prop} {ents : List (List Key × V)} {ks : List (List Str)} {val : List Str → γ} (d : RDict R ents ks val) (k : List Str) {y : V} {c : γ} (r : R y c) :
    RDict R (putK ents (keyRow k) y) (plusR ks k) (fun x => if x = k then c else val x) := by
  have ka := key_any d.keys k
  refine ⟨?_, plusR_nd d.nd k, ?_⟩
  · unfold putK plusR
    rw [ka]
    by_cases m : k ∈ ks
    · rw [if_pos (decide_eq_true m), if_pos m, List.map_map, ← d.keys]
      refine List.map_congr_left fun e _ => ?_
      show (if e.1 = keyRow k then (e.1, y) else e).1 = e.1
      by_cases c : e.1 = keyRow k
      · rw [if_pos c]
      · rw [if_neg c]
    · rw [if_neg (by rw [decide_eq_false m]; exact Bool.false_ne_true), if_neg m, List.map_append, List.map_append, d.keys]
      rfl
  · intro e he x ex
    unfold putK at he
    rw [ka] at he
    by_cases m : k ∈ ks
    · rw [if_pos (decide_eq_true m)] at he
      obtain ⟨f, hf, rfl⟩ := List.mem_map.mp he
      by_cases c1 : f.1 = keyRow k
      · rw [if_pos c1] at ex ⊢
        have : x = k := inr_inj.mp (ex.symm.trans c1)
        rw [if_pos this]
        exact r
      · rw [if_neg c1] at ex ⊢
        have : x ≠ k := fun z => c1 (by rw [ex, z])
        rw [if_neg this]
        exact d.vals f hf x ex
    · rw [if_neg (by rw [decide_eq_false m]; exact Bool.false_ne_true)] at he
      rcases List.mem_append.mp he with h1 | h1
      · have : x ≠ k := fun z => m (by
          have hm : keyRow x ∈ ks.map keyRow := by
            rw [← d.keys, ← ex]
            exact List.mem_map.mpr ⟨e, h1, rfl⟩
          obtain ⟨y', hy, ey⟩ := List.mem_map.mp hm
          rw [← z, ← inr_inj.mp ey]
          exact hy)
        rw [if_neg this]
        exact d.vals e h1 x ex
      · rw [List.mem_singleton.mp h1] at ex ⊢
        have : x = k := (inr_inj.mp ex).symm
        rw [if_pos this]
        exact r
theorem RDict.get {γ : Type} {R : V → γ → Prop} {ents : List (List Key × V)} {ks : List (List Str)} {val : List Str → γ} (d : RDict R ents ks val) {k : List Str} (h : k ∈ ks) : ∃ y, valV ents (keyRow k) = some y ∧ R y (val k) := by
  have ka := key_any d.keys k
  rw [decide_eq_true h, List.any_eq_true] at ka
  unfold valV
  cases e : ents.find? fun kv => decide (kv.1 = keyRow k) with
  | none =>
    obtain ⟨x, hx, z⟩ := ka
    exact absurd z (List.find?_eq_none.mp e x hx)
  | some f =>
    have z := List.find?_some e
    exact ⟨f.2, rfl, d.vals f (List.mem_of_find?_eq_some e) k (of_decide_eq_true z)⟩
theorem keys_isSome {ents : List (List Key × V)} {ks : List (List Str)} (h : ents.map (·.1) = ks.map keyRow) (k : List Str) : (valV ents (keyRow k)).isSome = decide (k ∈ ks) := by
  rw [← key_any h k]
  unfold valV
  rw [Option.isSome_map]
  cases e : ents.find? fun kv => decide (kv.1 = keyRow k) with
  | none =>
    symm
    rw [Option.isSome_none, List.any_eq_false]
    exact List.find?_eq_none.mp e
  | some f =>
    symm
    rw [Option.isSome_some, List.any_eq_true]
    have z := List.find?_some e
    exact ⟨f, List.mem_of_find?_eq_some e, z⟩
end Nm
namespace Nm
open PySem PySem.Spec PyProof.Rows L2 NmD
theorem sl_drop {K : PySem.W.Frag} {H : Hp} {a : Addr} {xs : List V} {k : Nat} {Q : VK} (h : H a = some (.tup xs)) (q : ∀ r H', Same H H' → H' r = some (.tup (xs.drop k)) → Q (.ref r) H') : rSlA K (.ref a) (some (k : Int)) none H Q := by
  have e1 : HT.sIx xs.length 0 (some (k : Int)) = min k xs.length := HT.sIx_nat _ _ _
  refine ⟨a, xs, rfl, SqT.of h, fun z => ?_, fun z p hp => ?_⟩
  · have e := z.1
    rw [e1] at e
    refine q a H (Same.refl H) ?_
    by_cases c : k = 0
    · rw [c, List.drop_zero]
      exact h
    · have : xs = [] := List.eq_nil_of_length_eq_zero (by omega)
      rw [this, List.drop_nil]
      rw [this] at h
      exact h
  · refine q p _ (same_new hp) ?_
    rw [upd_same]
    unfold cutV
    rw [e1, HT.sIx_none, List.take_of_length_le (by rw [List.length_drop]; omega)]
    by_cases c : k ≤ xs.length
    · rw [Nat.min_eq_left c]
    · rw [Nat.min_eq_right (by omega), List.drop_length, List.drop_of_length_le (by omega)]
/-- rows sorted: each once, ascending -/
theorem sorted_rows {H : Hp} {xs ys : List V} {rs : List (List Str)} (pa : Paired (RwAt H) xs rs) (nd : rs.Nodup) (srt : SrtO.Srtd (ltV fun x => rowL (rowOf H x)) ys) (stb : SrtO.Stb (ltV fun x => rowL (rowOf H x)) ys xs) :
    Paired (RwAt H) ys (ys.map (rowOf H)) ∧ (ys.map (rowOf H)).Pairwise bef ∧ (ys.map (rowOf H)).Perm rs := by
  have back : ∀ {us : List V} {qs : List (List Str)}, Paired (RwAt H) us qs → us.map (rowOf H) = qs := by
    intro us qs p
    induction p with
    | nil => rfl
    | cons h _ ih =>
      obtain ⟨r, e, hr⟩ := h
      rw [List.map_cons, ih, e, rowOf_at hr]
  have each : ∀ y ∈ ys, RwAt H y (rowOf H y) := fun y hy => by
    obtain ⟨i, hi⟩ := List.mem_iff_getElem?.mp (stb.perm.mem_iff.mp hy)
    obtain ⟨ws, _, r, e, hr⟩ := paired_at pa i y hi
    subst e
    rw [rowOf_at hr]
    exact ⟨r, rfl, hr⟩
  have pm : (ys.map (rowOf H)).Perm rs := by
    rw [← back pa]
    exact stb.perm.map _
  refine ⟨?_, ?_, pm⟩
  · clear stb srt pm
    induction ys with
    | nil => exact .nil
    | cons y ys ih => exact .cons (each y List.mem_cons_self) (ih fun z hz => each z (List.mem_cons_of_mem _ hz))
  · refine srt_bef ?_ (pm.nodup_iff.mpr nd)
    rw [List.pairwise_map]
    exact srt
theorem sql_bl {K : PySem.W.Frag} {H : Hp} {D : Addr} {bs : List Bool} (l : LstOf BlV H D bs) : SqL K H D (bs.map V.bl) := by
  obtain ⟨acc, h, pa⟩ := l
  rw [bls_vs pa] at h
  exact SqL.of h
theorem lst_str {H : Hp} {D : Addr} {zs : List Str} (l : LstOf StrV H D zs) : H D = some (.lst (zs.map V.str)) := by
  obtain ⟨acc, h, pa⟩ := l
  rw [strs_vs pa] at h
  exact h
/-- {row: True for row in rows} -/
theorem dcT_true {K : PySem.W.Frag} {a : Addr} {rs : List (List Str)} {H0 : Hp} {g : TG} {tk tv : TE} {vs : List Nat} {σ : L2.St} {D : Addr} {Qd : Hp → Prop} (hx : GmAt H0 a rs) (hz : rs.length ≤ 100000) (hD : H0 D = none)
    (hs : ∀ (i : Nat) (r : Addr) (ws : List Str) (H : Hp) (Nx : Hp → Prop), rs[i]? = some ws → Same H0 H → H r = some (.tup (ws.map V.str)) → (∃ ents : List (List Key × V), H D = some (.dT ents) ∧ ents.length < sizeLine ∧ Nx (upd H D (.dT (putK ents (keyRow ws) (.bl true))))) →
      g (.ref r) (wipe σ vs) H fun σ2 H2 => wipe σ2 vs = wipe σ vs ∧ tk σ2 H2 fun y H4 => tv σ2 H4 fun z H5 =>
        ∃ (ents : List (List Key × V)) (k : List Key) (b : Addr), y = .ref b ∧ H5 D = some (.dT ents) ∧ H5 b = some (.tup (k.map kV)) ∧ ents.length < sizeLine ∧ Nx (upd H5 D (.dT (putK ents k z))))
    (hd : ∀ H (ents : List (List Key × V)) (ks : List (List Str)), Same H0 H → H D = some (.dT ents) → ents.map (·.1) = ks.map keyRow → (∀ z, z ∈ ks ↔ z ∈ rs) → Qd H) :
    ∃ W : Nat → Nat → Hp → Prop, (∃ m, W 0 m (upd H0 D (.dT []))) ∧ ∀ i m H, W i m H → ((Itt K a).stop i H ∧ Qd H) ∨ ((Itt K a).go i H ∧ ∃ Nx : Hp → Prop, (∀ H', Nx H' → ∃ m', m' < m ∧ W (i + 1) m' H') ∧
      ∀ x H', (Itt K a).yld i H x H' → g x (wipe σ vs) H' fun σ2 H2 => wipe σ2 vs = wipe σ vs ∧ tk σ2 H2 fun y H4 => tv σ2 H4 fun z H5 =>
        ∃ (ents : List (List Key × V)) (k : List Key) (b : Addr), y = .ref b ∧ H5 D = some (.dT ents) ∧ H5 b = some (.tup (k.map kV)) ∧ ents.length < sizeLine ∧ Nx (upd H5 D (.dT (putK ents k z)))) := by
  obtain ⟨xs, ha, pa⟩ := hx
  have el := paired_len pa
  have big : (100000 : Nat) < sizeLine := by decide
  refine dcT_tup (xs := xs) (fun i H => Same H0 H ∧ ∃ (ents : List (List Key × V)) (ks : List (List Str)), H D = some (.dT ents) ∧ ents.length ≤ i ∧ RDict (fun y (b : Bool) => y = V.bl b) ents ks (fun _ => true) ∧ ∀ z, z ∈ ks ↔ z ∈ rs.take i)
    ⟨same_new hD, [], [], upd_same, Nat.le_refl _, ⟨rfl, .nil, fun e he => absurd he (List.not_mem_nil)⟩, fun z => by simp⟩ (fun i H _ p => SqT.of (p.1 _ _ ha)) ?_ ?_
  · rintro i x H hi ⟨sm, ents, ks, hd1, le, dd, mem⟩
    obtain ⟨ws, hw, r, rfl, hr⟩ := paired_at pa i x hi
    have li := (List.getElem?_eq_some_iff.mp hi).1
    refine hs i r ws H (fun H => Same H0 H ∧ ∃ (ents : List (List Key × V)) (ks : List (List Str)), H D = some (.dT ents) ∧ ents.length ≤ i + 1 ∧ RDict (fun y (b : Bool) => y = V.bl b) ents ks (fun _ => true) ∧ ∀ z, z ∈ ks ↔ z ∈ rs.take (i + 1)) hw sm (sm _ _ hr) ⟨ents, hd1, by omega, same_mut sm hD, _, plusR ks ws, upd_same, ?_, ?_, fun z => ?_⟩
    · have := length_putK ents (keyRow ws) (V.bl true)
      omega
    · have p := dd.put ws (y := V.bl true) (c := true) rfl
      have e : (fun x => if x = ws then true else (fun _ => true) x) = fun _ : List Str => true := by
        funext x
        by_cases c : x = ws
        · rw [if_pos c]
        · rw [if_neg c]
      rw [e] at p
      exact p
    · rw [mem_plusR, mem z, take_one hw, List.mem_append, List.mem_singleton]
  · rintro H ⟨sm, ents, ks, hd1, le, dd, mem⟩
    rw [el, List.take_length] at mem
    exact hd H ents ks sm hd1 dd.keys mem
theorem kit_lt_lst {K : PySem.W.Frag} : PySem.W.kitAny K (.type "list") [.type "list", .type "tuple"] = some true := kitAny_cons (b := true) (kit_ty (by decide +kernel)) (fun z => absurd z (by decide)) (fun _ => rfl)
theorem kit_lt_tup {K : PySem.W.Frag} : PySem.W.kitAny K (.type "tuple") [.type "list", .type "tuple"] = some true := kitAny_cons (b := false) (kit_ty (by decide +kernel)) (fun _ => kitAny_cons (b := true) (kit_ty (by decide +kernel)) (fun z => absurd z (by decide)) (fun _ => rfl)) (fun z => absurd z (by decide))
theorem rowB_of {r : List Str} (h : rwOk r) : rowB r 60 = true := by
  unfold rowB
  rw [decide_eq_true (show ((r.length : Nat) : Int) ≤ 60 by have := h.1; omega), Bool.true_and, List.all_eq_true]
  exact fun z hz => (h.2 z hz).1
end Nm
namespace Nm
open PySem PySem.Spec PyProof.Rows L2 NmD
theorem sl_from1 {K : PySem.W.Frag} {H : Hp} {a : Addr} {xs : List V} {Q : VK} (h : H a = some (.tup xs)) (q : ∀ r H', Same H H' → H' r = some (.tup (xs.drop 1)) → Q (.ref r) H') : rSlA K (.ref a) (some 1) none H Q := sl_drop (k := 1) h q
def rLenS (K : PySem.W.Frag) : List V → Hp → VK → Prop := fun xs H Q => ∃ p ys, xs = [V.ref p] ∧ (SqL K H p ys ∨ SqT K H p ys) ∧ Q (V.int ys.length) H
theorem call_lenS {X : Cx} : CallR X (.builtin "len") (rLenS X.K) := call_len_seq
theorem sl_takeE {K : PySem.W.Frag} {H : Hp} {a : Addr} {xs : List V} {n : Int} {k : Nat} {Q : VK} (e : n = (k : Int)) (h : H a = some (.tup xs)) (q : ∀ r H', Same H H' → H' r = some (.tup (xs.take k)) → Q (.ref r) H') : rSlA K (.ref a) none (some n) H Q := by
  subst e
  exact sl_take h q
theorem sl_dropE {K : PySem.W.Frag} {H : Hp} {a : Addr} {xs : List V} {n : Int} {k : Nat} {Q : VK} (e : n = (k : Int)) (h : H a = some (.tup xs)) (q : ∀ r H', Same H H' → H' r = some (.tup (xs.drop k)) → Q (.ref r) H') : rSlA K (.ref a) (some n) none H Q := by
  subst e
  exact sl_drop h q
theorem keys_put {ents : List (List Key × V)} {ks : List (List Str)} (h : ents.map (·.1) = ks.map keyRow) (nd : ks.Nodup) (k : List Str) (y : V) : (putK ents (keyRow k) y).map (·.1) = (plusR ks k).map keyRow :=
  (RDict.put (R := fun _ (_ : Unit) => True) (val := fun _ => ()) ⟨h, nd, fun _ _ _ _ => trivial⟩ k (y := y) (c := ()) trivial).keys
theorem two : 2 ≤ PySem.sizeLine := by decide
theorem nought : 0 ≤ PySem.sizeLine := Nat.zero_le _
end Nm
namespace Nm
open PySem PySem.Spec PyProof.Rows L2 HT
/-! ### t[::-1], t a tuple -/
theorem adjust_rev (n : Nat) : Builtin.Slice.sliceAdjust none none (-1) (n : Int) = ((n : Int) - 1, -1) := by
  unfold Builtin.Slice.sliceAdjust
  simp
theorem places_rev (n : Nat) (h : 1 ≤ n) : Builtin.Slice.slicePlaces ((n : Int) - 1) (-1) (-1) = n := by
  unfold Builtin.Slice.slicePlaces
  have h1 : ¬ ((-1 : Int) > 0) := by omega
  simp only [h1, if_false]
  split
  · rw [show (- -1 : Int) = 1 by decide, Int.ediv_one]
    omega
  · omega
theorem fmap_some {α β : Type} {f : α → Option β} {g : α → β} : ∀ {l : List α}, (∀ m ∈ l, f m = some (g m)) → l.filterMap f = l.map g
  | [], _ => rfl
  | m :: l, h => by
    rw [List.filterMap_cons, h m List.mem_cons_self, List.map_cons]
    show g m :: List.filterMap f l = _
    rw [fmap_some fun z hz => h z (List.mem_cons_of_mem _ hz)]
theorem pick_rev (xs : Array Value) : ((List.range xs.size).filterMap fun (m : Nat) => xs[(((xs.size : Nat) : Int) - 1 + (m : Int) * -1).toNat]?).toArray = xs.toList.reverse.toArray := by
  congr 1
  apply List.ext_getElem?
  have e : (List.range xs.size).filterMap (fun (m : Nat) => xs[(((xs.size : Nat) : Int) - 1 + (m : Int) * -1).toNat]?) = (List.range xs.size).map fun m => xs.toList.reverse.getD m default := by
    refine fmap_some fun m hm => ?_
    have hm := List.mem_range.mp hm
    rw [show (((xs.size : Nat) : Int) - 1 + (m : Int) * -1).toNat = xs.size - 1 - m by omega]
    rw [List.getD_eq_getElem?_getD, List.getElem?_reverse (by rw [Array.length_toList]; exact hm), Array.length_toList, Array.getElem?_toList, Array.getElem?_eq_getElem (by omega)]
    rfl
  intro i
  rw [e, List.getElem?_map]
  by_cases c : i < xs.size
  · rw [List.getElem?_range c, List.getElem?_eq_getElem (by rw [List.length_reverse, Array.length_toList]; exact c)]
    show some (xs.toList.reverse.getD i default) = _
    rw [List.getD_eq_getElem?_getD, List.getElem?_eq_getElem (by rw [List.length_reverse, Array.length_toList]; exact c)]
    rfl
  · rw [List.getElem?_eq_none (by rw [List.length_range]; omega), List.getElem?_eq_none (by rw [List.length_reverse, Array.length_toList]; omega)]
    rfl
section
variable {prog : Program} {w : World} {A : Around} {E : Value → Shared → Prop} {s : Shared}
theorem sliceApplied_rev {sl : Addr} {vs : Value} {n : Nat} {Q : Int × Int × Nat → Shared → Prop} (hs : s.heap.IsSliceOf sl .none .none vs) (ps : IsPart vs (some (-1))) (hn : 1 ≤ n)
    (h : Q ((n : Int) - 1, -1, n) s) : wpAny (model prog w) A (Builtin.Slice.sliceApplied (.ref sl) (pure (n : Int))) Q E s := by
  obtain ⟨os, hos, hcs, hds⟩ := id hs
  unfold Builtin.Slice.sliceApplied Builtin.Slice.sliceFields
  refine wpAny_bind (wpAny_bind (wpAny_field hos hds (x := .none) rfl (wpAny_bind (wpAny_field hos hds (x := .none) rfl (wpAny_bind (wpAny_field hos hds (x := vs) rfl (wpAny_pure ?_)))))))
  refine wpAny_bind (slicePart_ ps ?_)
  show wpAny _ _ (if ((-1 : Int) == 0) = true then _ else _) _ _ s
  rw [if_neg (by decide)]
  refine wpAny_bind (slicePart_ .none (wpAny_bind (slicePart_ .none (wpAny_bind (wpAny_pure ?_)))))
  show wpAny _ _ (match Builtin.Slice.sliceAdjust none none (-1) (n : Int) with | (lo, hi) => pure (lo, (-1 : Int), Builtin.Slice.slicePlaces lo hi (-1))) _ _ s
  rw [adjust_rev n]
  show wpAny _ _ (pure ((n : Int) - 1, (-1 : Int), Builtin.Slice.slicePlaces ((n : Int) - 1) (-1) (-1))) _ _ s
  rw [places_rev n hn]
  exact wpAny_pure h
theorem getItem_tuple_rev {t sl : Addr} {items : Array Value} {vs : Value} {Q : Value → Shared → Prop} (ht : IsTup s.heap t items) (hs : s.heap.IsSliceOf sl .none .none vs) (ps : IsPart vs (some (-1))) (h1 : 1 ≤ items.size)
    (h : Q (.ref s.heap.objs.size) { s with heap := s.heap.push { cls := .type "tuple", data := .seq items.toList.reverse.toArray } })
    (hsz : items.size ≤ sizeLine) : wpAny (model prog w) A (getItem (.ref t) (.ref sl)) Q E s := by
  have htake : sizeOk (.seq items.toList.reverse.toArray) := by
    show items.toList.reverse.toArray.size ≤ sizeLine
    rw [List.size_toArray, List.length_reverse, Array.length_toList]
    exact hsz
  obtain ⟨os, hos, hcs, hds⟩ := id hs
  have hTs : s.TypeIs (.ref sl) "slice" := ⟨os, hos, hcs⟩
  unfold getItem
  try with_reducible refine wpAny_holding ?_
  first | refine wpAny_bind (wpAny_pure ?_) | skip
  refine wpAny_bind (wpAny_sequenceKey ht.typeIs (by decide) ?_)
  refine wpAny_bind (wpAny_callSpecial?_slot (name := Str.ofString "__getitem__") ht.typeIs PyProof.Rows.slot_tuple_getitem
    (wpAny_call_entry PyProof.Rows.slot_tuple_getitem ht.typeIs entry_tuple_getitem ?_ (args_tuple_getitem _ _)))
  show wpAny _ _ (Builtin.Tuple.tupleItemsOf (.ref t) >>= _) _ _ s
  refine wpAny_bind (tupleItemsOf_ ht ?_)
  refine wpAny_bind (wpAny_typeOf hTs ?_)
  rw [if_pos (by decide)]
  refine wpAny_bind (sliceApplied_rev (n := items.size) hs ps h1 ?_)
  have hno : ¬ (((((items.size : Nat) : Int) - 1) == 0 && (-1 : Int) == 1 && items.size == items.size) = true) := by
    intro q
    rw [Bool.and_eq_true, Bool.and_eq_true] at q
    exact absurd q.1.2 (by decide)
  show wpAny _ _ (if ((((items.size : Nat) : Int) - 1) == 0 && (-1 : Int) == 1 && items.size == items.size) = true then _ else _) _ _ s
  rw [if_neg hno, pick_rev]
  first
    | exact wpAny_bind (m := Builtin.Tuple.tupleExact _) (wpAny_newObj_type (wpAny_pure ⟨_, rfl, wpAny_pure h⟩) htake)
    | exact wpAny_bind (m := Builtin.Tuple.tupleExact _) (wpAny_newObj_type (wpAny_bind (wpAny_pure (wpAny_pure ⟨_, rfl, wpAny_pure h⟩))) htake)
    | exact wpAny_bind (wpAny_bind (m := Builtin.Tuple.tupleExact _) (wpAny_newObj_type (wpAny_pure (wpAny_pure ⟨_, rfl, wpAny_pure h⟩)) htake))
    | exact wpAny_bind (wpAny_bind (m := Builtin.Tuple.tupleExact _) (wpAny_newObj_type (wpAny_pure ⟨_, rfl, wpAny_pure h⟩) htake))
end
variable {X : Cx}
def tRevT (K : PySem.W.Frag) (te : TE) : TE := fun σ H Q => te σ H fun x H1 => ∃ a xs, x = .ref a ∧ SqT K H1 a xs ∧ xs ≠ [] ∧ ∀ p, H1 p = none → Q (.ref p) (upd H1 p (.tup xs.reverse))
theorem pe_revT {e : Expr} {te : TE} {k : Nat} {p1 p2 p3 pos : Pos} (he : PE X e te) : PE X (.Subscript e (.Slice none none (some (.UnaryOp .USub (.Constant (.int 1) k p1) p2)) p3) pos) (tRevT X.K te) := by
  refine ⟨fun pins s σ H Q I h => ?_⟩
  refine Subscript_ (thn (he.run pins s σ H _ I h) fun v s1 ⟨x, H1, I1, r1, q1⟩ => ?_)
  obtain ⟨a, xs, ex, hx, hne, q⟩ := q1
  subst ex
  cases r1
  have hst : PO X (some (.UnaryOp .USub (.Constant (.int 1) k p1) p2)) (tPart (tUn (rU fun i => .int (-i)) (tC (.int 1)))) := po_some (pe_un un_neg pe_int)
  refine wpAny_Slice (thn (po_none.run pins s1 σ H1 (fun o H2 => o = none ∧ H2 = H1) I1 ⟨rfl, rfl⟩) fun vl s2 ⟨l, H2, I2, pl, el, e2⟩ => ?_)
  subst el e2
  refine thn (po_none.run pins s2 σ H2 (fun o H3 => o = none ∧ H3 = H2) I2 ⟨rfl, rfl⟩) fun vu s3 ⟨u, H3, I3, pu, eu, e3⟩ => ?_
  subst eu e3
  refine thn (hst.run pins s3 σ H3 (fun o H4 => o = some (-1) ∧ H4 = H3) I3 ⟨1, rfl, -1, rfl, rfl, rfl⟩) fun vs s4 ⟨o, H4, I4, ps, eo, e4⟩ => ?_
  subst eo e4
  cases pl
  cases pu
  have I5 : Inv X pins σ H4 { s4 with heap := s4.heap.push { cls := .type "slice", data := .fields #[.none, .none, vs] } } := I4.kept (t' := s4.toks) fun b ob q => Heap.get?_push_of_some _ q
  obtain ⟨its, r, ht, hz⟩ := I5.tuple hx
  have hlen := r.length
  show wpAny (model X.prog X.w) X.A (subscriptTail e (.Slice none none (some (.UnaryOp .USub (.Constant (.int 1) k p1) p2)) p3) (.ref a) (.ref s4.heap.objs.size)) (EP X pins σ Q) X.xe { s4 with heap := s4.heap.push { cls := .type "slice", data := .fields #[.none, .none, vs] } }
  refine tail_any (ops := [.ref a, .ref s4.heap.objs.size]) ht.typeIs (PyProof.Rows.slot_tuple_getitem.lookup) ?_ (by with_unfolding_all rfl)
  have l1 : 1 ≤ its.toArray.size := by
    rw [List.size_toArray, ← hlen]
    exact List.length_pos_iff.mpr hne
  refine getItem_tuple_rev ht (Heap.IsSliceOf.new _ .none .none vs) ps l1 ?_ (by rw [List.size_toArray]; omega)
  refine ⟨.ref _, _, I5.laid (t' := s4.toks) (o := .tup xs.reverse) (fun b ob q => Heap.get?_push_of_some _ q) (Nat.le_refl _) ?_, rfl, q _ (I5.hok.fresh (Nat.le_refl _))⟩
  exact ⟨by rw [List.length_reverse]; exact hz, _, r.reverse, IsTup.new _ _⟩
end Nm
namespace Nm
open PySem PySem.Spec PyProof.Rows L2
/-! ### max(xs, default=d) of a list of ints -/
theorem fold_max : ∀ (xs : List Int) (x : Int), PySem.W.maxOf x xs ∈ x :: xs ∧ ∀ y ∈ x :: xs, y ≤ PySem.W.maxOf x xs
  | [], x => ⟨List.mem_singleton.mpr rfl, fun y hy => by rw [List.mem_singleton.mp hy]; exact Int.le_refl _⟩
  | z :: xs, x => by
    have e : PySem.W.maxOf x (z :: xs) = PySem.W.maxOf (if PySem.W.DatumOrd.lt x z = true then z else x) xs := rfl
    obtain ⟨h1, h2⟩ := fold_max xs (if PySem.W.DatumOrd.lt x z = true then z else x)
    rw [e]
    have c : PySem.W.DatumOrd.lt x z = decide (x < z) := rfl
    rw [c] at h1 h2 ⊢
    by_cases h : x < z
    · rw [if_pos (decide_eq_true h)] at h1 h2 ⊢
      refine ⟨List.mem_cons_of_mem _ h1, fun y hy => ?_⟩
      rcases List.mem_cons.mp hy with rfl | hy
      · have := h2 z List.mem_cons_self
        omega
      · exact h2 y hy
    · rw [if_neg (fun w => h (of_decide_eq_true w))] at h1 h2 ⊢
      refine ⟨?_, fun y hy => ?_⟩
      · rcases List.mem_cons.mp h1 with w | w
        · rw [w]
          exact List.mem_cons_self
        · exact List.mem_cons_of_mem _ (List.mem_cons_of_mem _ w)
      · rcases List.mem_cons.mp hy with rfl | hy
        · exact h2 _ List.mem_cons_self
        · rcases List.mem_cons.mp hy with rfl | hy
          · have := h2 x List.mem_cons_self
            omega
          · exact h2 y (List.mem_cons_of_mem _ hy)
def rMaxD0 (K : PySem.W.Frag) : List V → List V → Hp → VK → Prop := fun vs zs H Q => ∃ (a : Addr) (ns : List Int) (d : Int), vs = [V.ref a] ∧ zs = [.int d] ∧ SqL K H a (ns.map V.int) ∧ (ns = [] → Q (.int d) H) ∧ ∀ m, m ∈ ns → (∀ y ∈ ns, y ≤ m) → Q (.int m) H
theorem cr_maxDef {X : Cx} (hc : X.calm = true) (hu : X.A.units + 64 < cLine) : CallRK X (.builtin "max") [Str.ofString "default"] (rMaxD0 X.K) := by
  intro pins s σ H xs zs us ws Q I rx rz h
  obtain ⟨a, ns, d, rfl, rfl, hs, q0, q⟩ := h
  obtain ⟨its, rv, hl, _⟩ := I.list hs
  rw [Vals.ref1 rx]
  cases rz with
  | @cons _ wd _ _ rd rt =>
  cases rt
  have hi := rv.ints
  refine PySem.W.max_list_datum_default (xs := ns) (I.ok.hd hc) hl.isList (PySem.W.HoldAll.of_ints (by rw [List.toList_toArray]; exact hi)) (Nat.lt_of_le_of_lt (by show X.A.units + 1 + 0 ≤ X.A.units + 64; omega) hu) (fun e h' tk hk => ?_) fun y ys i v h' tk e hv hh hk => ?_
  · exact ⟨.int d, H, I.kept hk, rd, q0 e⟩
  · obtain ⟨m1, m2⟩ := fold_max ys y
    obtain ⟨as, r⟩ := hh
    have w : ∃ t, v = .int (PySem.W.maxOf y ys) t := by
      have := PySem.W.HoldAll.toInts (h := h') (vs := [v]) (ns := [PySem.W.maxOf y ys]) ⟨as ++ [], .cons r .nil⟩
      cases this
      exact ⟨_, rfl⟩
    obtain ⟨t, rfl⟩ := w
    subst e
    exact ⟨.int (PySem.W.maxOf y ys), H, I.kept hk, ⟨t, rfl⟩, q _ m1 m2⟩
end Nm
namespace Nm
open PySem PySem.Spec PyProof.Rows L2 NmD
/-! ### games solved -/
def nexts (rs : List (List Str)) (k : List Str) : List (List Str) := rs.filter (isNext k)
theorem mem_nexts {rs : List (List Str)} {k l : List Str} : l ∈ nexts rs k ↔ l ∈ rs ∧ ∃ w, l = k ++ [w] := by
  unfold nexts
  rw [List.mem_filter, isNext_iff]
theorem nexts_len {rs : List (List Str)} {k l : List Str} (h : l ∈ nexts rs k) : l.length = k.length + 1 := by
  obtain ⟨_, w, rfl⟩ := mem_nexts.mp h
  rw [List.length_append, List.length_singleton]
/-- what one step tells: does the one who moves win, and in how many words -/
def stepV (told : List (Bool × Int)) : Bool × Int :=
  let winning := (told.filter fun t => !t.1).map (·.2)
  if winning = [] then (false, (told.map fun t => 1 + t.2).foldl max 0) else (true, 1 + winning.foldl min (winning.headD 0))
def sol (rs : List (List Str)) : Nat → List Str → Bool × Int
  | 0, _ => (false, 0)
  | n + 1, row => stepV ((nexts rs row).map (sol rs n))
/-- of a row of at most 60 words -/
def val (rs : List (List Str)) (row : List Str) : Bool × Int := sol rs (61 - row.length) row
theorem val_eq (rs : List (List Str)) {row : List Str} (h : row.length ≤ 60) : val rs row = stepV ((nexts rs row).map (val rs)) := by
  unfold val
  obtain ⟨n, hn⟩ : ∃ n, 61 - row.length = n + 1 := ⟨60 - row.length, by omega⟩
  rw [hn]
  show stepV ((nexts rs row).map (sol rs n)) = _
  congr 1
  refine List.map_congr_left fun l hl => ?_
  rw [nexts_len hl, show 61 - (row.length + 1) = n by omega]
/-- the one who moves wins there just if some word leads to where the other one loses -/
theorem val_win {rs : List (List Str)} {row : List Str} (h : row.length ≤ 60) : (val rs row).1 = true ↔ ∃ l ∈ nexts rs row, (val rs l).1 = false := by
  rw [val_eq rs h]
  unfold stepV
  by_cases c : (((nexts rs row).map (val rs)).filter fun t => !t.1).map (·.2) = []
  · rw [if_pos c]
    constructor
    · intro z
      cases z
    · rintro ⟨l, hl, e⟩
      have : val rs l ∈ (((nexts rs row).map (val rs)).filter fun t => !t.1) := List.mem_filter.mpr ⟨List.mem_map.mpr ⟨l, hl, rfl⟩, by rw [e]; rfl⟩
      rw [List.map_eq_nil_iff.mp c] at this
      cases this
  · rw [if_neg c]
    refine ⟨fun _ => ?_, fun _ => rfl⟩
    obtain ⟨t, ht⟩ := List.exists_mem_of_ne_nil _ (fun z => c (List.map_eq_nil_iff.mpr z))
    obtain ⟨h1, h2⟩ := List.mem_filter.mp ht
    obtain ⟨l, hl, rfl⟩ := List.mem_map.mp h1
    exact ⟨l, hl, by cases e : (val rs l).1 with
      | false => rfl
      | true => rw [e] at h2; cases h2⟩
/-- the side that wins at a row -/
def winS (rs : List (List Str)) (row : List Str) : Int := if (val rs row).1 = true then (row.length : Int) % 2 else 1 - (row.length : Int) % 2
theorem fold_maxI : ∀ (xs : List Int) (x : Int), (xs.foldl max x ∈ x :: xs) ∧ ∀ y ∈ x :: xs, y ≤ xs.foldl max x
  | [], x => ⟨List.mem_singleton.mpr rfl, fun y hy => by rw [List.mem_singleton.mp hy]; exact Int.le_refl _⟩
  | z :: xs, x => by
    obtain ⟨h1, h2⟩ := fold_maxI xs (max x z)
    rw [List.foldl_cons]
    refine ⟨?_, fun y hy => ?_⟩
    · rcases List.mem_cons.mp h1 with w | w
      · rw [w]
        rcases Int.le_total x z with c | c
        · rw [Int.max_eq_right c]
          exact List.mem_cons_of_mem _ List.mem_cons_self
        · rw [Int.max_eq_left c]
          exact List.mem_cons_self
      · exact List.mem_cons_of_mem _ (List.mem_cons_of_mem _ w)
    · have m := h2 (max x z) List.mem_cons_self
      rcases List.mem_cons.mp hy with rfl | hy
      · exact Int.le_trans (Int.le_max_left _ _) m
      · rcases List.mem_cons.mp hy with rfl | hy
        · exact Int.le_trans (Int.le_max_right _ _) m
        · exact h2 y (List.mem_cons_of_mem _ hy)
theorem fold_minI : ∀ (xs : List Int) (x : Int), (xs.foldl min x ∈ x :: xs) ∧ ∀ y ∈ x :: xs, xs.foldl min x ≤ y
  | [], x => ⟨List.mem_singleton.mpr rfl, fun y hy => by rw [List.mem_singleton.mp hy]; exact Int.le_refl _⟩
  | z :: xs, x => by
    obtain ⟨h1, h2⟩ := fold_minI xs (min x z)
    rw [List.foldl_cons]
    refine ⟨?_, fun y hy => ?_⟩
    · rcases List.mem_cons.mp h1 with w | w
      · rw [w]
        rcases Int.le_total x z with c | c
        · rw [Int.min_eq_left c]
          exact List.mem_cons_self
        · rw [Int.min_eq_right c]
          exact List.mem_cons_of_mem _ List.mem_cons_self
      · exact List.mem_cons_of_mem _ (List.mem_cons_of_mem _ w)
    · have m := h2 (min x z) List.mem_cons_self
      rcases List.mem_cons.mp hy with rfl | hy
      · exact Int.le_trans m (Int.min_le_left _ _)
      · rcases List.mem_cons.mp hy with rfl | hy
        · exact Int.le_trans m (Int.min_le_right _ _)
        · exact h2 y (List.mem_cons_of_mem _ hy)
theorem step_win {told : List (Bool × Int)} (h : (told.filter fun t => !t.1).map (·.2) ≠ []) {m : Int} (hm : m ∈ (told.filter fun t => !t.1).map (·.2)) (hl : ∀ y ∈ (told.filter fun t => !t.1).map (·.2), m ≤ y) : stepV told = (true, 1 + m) := by
  unfold stepV
  rw [if_neg h]
  generalize (told.filter fun t => !t.1).map (·.2) = ws at h hm hl
  cases ws with
  | nil => exact absurd rfl h
  | cons w ws =>
    obtain ⟨h1, h2⟩ := fold_minI (w :: ws) w
    have e : (w :: ws).foldl min ((w :: ws).headD 0) = m := by
      have a := h2 m (List.mem_cons_of_mem _ hm)
      have b : m ≤ (w :: ws).foldl min w := by
        rcases List.mem_cons.mp h1 with z | z
        · rw [z]
          exact hl w List.mem_cons_self
        · exact hl _ z
      show (w :: ws).foldl min w = m
      omega
    rw [e]
theorem step_lose0 {told : List (Bool × Int)} (h : (told.filter fun t => !t.1).map (·.2) = []) (e : told.map (fun t => 1 + t.2) = []) : stepV told = (false, 0) := by
  unfold stepV
  rw [if_pos h, e]
  rfl
theorem step_lose {told : List (Bool × Int)} (h : (told.filter fun t => !t.1).map (·.2) = []) {m : Int} (hm : m ∈ told.map (fun t => 1 + t.2)) (hl : ∀ y ∈ told.map (fun t => 1 + t.2), y ≤ m) (pos : ∀ y ∈ told.map (fun t => 1 + t.2), 0 ≤ y) : stepV told = (false, m) := by
  unfold stepV
  rw [if_pos h]
  obtain ⟨h1, h2⟩ := fold_maxI (told.map (fun t => 1 + t.2)) 0
  have a := h2 m (List.mem_cons_of_mem _ hm)
  have b : (told.map (fun t => 1 + t.2)).foldl max 0 ≤ m := by
    rcases List.mem_cons.mp h1 with z | z
    · rw [z]
      exact pos m hm
    · exact hl _ z
  rw [show (told.map (fun t => 1 + t.2)).foldl max 0 = m by omega]
theorem step_pos {told : List (Bool × Int)} (h : ∀ t ∈ told, 0 ≤ t.2) : 0 ≤ (stepV told).2 := by
  unfold stepV
  by_cases c : (told.filter fun t => !t.1).map (·.2) = []
  · rw [if_pos c]
    exact (fold_maxI _ 0).2 0 List.mem_cons_self
  · rw [if_neg c]
    have : 0 ≤ ((told.filter fun t => !t.1).map (·.2)).foldl min (((told.filter fun t => !t.1).map (·.2)).headD 0) := by
      have all : ∀ y ∈ (told.filter fun t => !t.1).map (·.2), 0 ≤ y := fun y hy => by
        obtain ⟨t, ht, rfl⟩ := List.mem_map.mp hy
        exact h t (List.mem_filter.mp ht).1
      generalize (told.filter fun t => !t.1).map (·.2) = ws at c all
      cases ws with
      | nil => exact absurd rfl c
      | cons w ws =>
        show 0 ≤ (w :: ws).foldl min w
        rcases List.mem_cons.mp (fold_minI (w :: ws) w).1 with z | z
        · rw [z]
          exact all w List.mem_cons_self
        · exact all _ z
    show 0 ≤ 1 + _
    omega
theorem sol_pos (rs : List (List Str)) : ∀ (n : Nat) (row : List Str), 0 ≤ (sol rs n row).2
  | 0, _ => Int.le_refl 0
  | n + 1, row => step_pos fun t ht => by
    obtain ⟨l, _, rfl⟩ := List.mem_map.mp ht
    exact sol_pos rs n l
theorem val_pos (rs : List (List Str)) (row : List Str) : 0 ≤ (val rs row).2 := sol_pos rs _ row
/-- the rows of a game: the empty one first -/
theorem IsG.head {rs : List (List Str)} (g : IsG rs) : ∃ t, rs = [] :: t := by
  cases rs with
  | nil => exact absurd g.nil (List.not_mem_nil)
  | cons r t =>
    rcases List.mem_cons.mp g.nil with e | m
    · exact ⟨t, by rw [e]⟩
    · cases r with
      | nil => exact ⟨t, rfl⟩
      | cons w r => exact absurd ((List.pairwise_cons.mp g.up).1 _ m) (bef_not (nil_bef w r))
end Nm
namespace Nm
open PySem PySem.Spec PyProof.Rows L2 NmD PySem.SeqAt
variable {X : Cx}
/-! ### name = {row: v for row in ..}, the row's name a local as well -/
theorem dc_core {pins : List (Addr × Obj)} {s : Shared} {σ : L2.St} {H : Hp} {Q : VK} {kx vx tg iter : Expr} {scope : Scope} {own : List (PySem.Str × Nat)} {pos pos' : Pos} {wi : TI} {g : TG} {tk tv : TE} {use : Option (Value → Sem Unit)} {Qf : Value → Shared → Prop}
    (hc : X.calm = true) (hN : X.N.Nodup) (hu : X.A.units + 1 < cLine) (I : Inv X pins σ H s) (hi : PI X tg iter wi) (ok : BlkOk X.N X.env.scope scope own)
    (hg : ∀ (s : Shared) (H : Hp) (C : Addr) (cl : List (PySem.Str × Addr)) (fp : List Addr), PG (X.blk s H scope (compEnvC scope cl C X.env) fp) tg g)
    (hk : ∀ (s : Shared) (H : Hp) (C : Addr) (cl : List (PySem.Str × Addr)) (fp : List Addr), PE (X.blk s H scope (compEnvC scope cl C X.env) fp) kx tk)
    (he : ∀ (s : Shared) (H : Hp) (C : Addr) (cl : List (PySem.Str × Addr)) (fp : List Addr), PE (X.blk s H scope (compEnvC scope cl C X.env) fp) vx tv)
    (hs : ∀ x, foldedSetIterable iter X.env x = pure x) (h : tDcT wi g tk tv (own.map (·.2)) σ H Q)
    (hRR : ∀ D C s' m H', Inv X pins σ H' s' → Q (.ref D) H' → s'.heap.Ns C m → FpOk X pins H' C → compPost (model X.prog X.w) X.A X.xe use Qf (.ref D) C (.ok .next) s') :
    wpAny (model X.prog X.w) X.A (comprehension (.DictComp kx vx [⟨tg, iter, [], 0⟩] scope pos) scope X.env pos' newDict false (eval iter X.env) use) Qf X.xe s := by
  have closed : ∀ y ∈ scope.names, y.2 = .free → ∃ c, X.env.cells.lookup y.1 = some c := fun y hy e => (ok.free y hy e).elim (fun k => I.ok.has _ (.inl k)) fun k => I.ok.has _ (.inr k)
  refine wpAny_comprehension_free (use := use) rfl hs (closure_ok closed) ok.kind (fun y hy e => by rw [ok.uniq y hy, e]) (thn (hi.run pins s σ H _ I h) fun xv s1 hx => thn hx fun itv s2 h2 => ?_)
  obtain ⟨it, fp, tn, J, H2, e, I2, T, st2, f2, q⟩ := h2
  subst e
  refine wpAny_newObj_type (newEnv_comp ?_)
  generalize hD : s2.heap.objs.size = D
  have hDn : H2 D = none := I2.hok.fresh (Nat.le_of_eq hD)
  obtain ⟨W, ⟨m0, w0⟩, turn⟩ := q D hDn
  generalize hs3 : ({ s2 with heap := s2.heap.push { cls := .type "dict", data := .dict #[] } } : Shared) = s3
  have h3 : s3.heap = s2.heap.push { cls := .type "dict", data := .dict #[] } := by rw [← hs3]
  generalize hH3 : upd H2 D (.dT []) = H3 at w0
  have I3 : Inv X pins σ H3 s3 := by
    rw [← hs3, ← hH3]
    refine I2.laid (t' := s2.toks) (fun b o e => Heap.get?_push_of_some _ e) (Nat.le_of_eq hD) ?_
    rw [← hD]
    exact dt_empty s2.heap I2.big
  have below : ∀ b ∈ fp, b < s2.heap.objs.size := fun b hb => by
    obtain ⟨o, e, _⟩ := T.obj _ _ st2 b hb
    exact Heap.lt_size e
  have f3 : ∀ b ∈ fp, FpOk X pins H3 b ∧ b < s3.heap.objs.size := fun b hb => by
    have lt := below b hb
    have ne : b ≠ D := by rw [← hD]; exact Nat.ne_of_lt lt
    refine ⟨⟨?_, (f2 b hb).2⟩, by rw [h3, Heap.size_push]; exact Nat.lt_succ_of_lt lt⟩
    rw [← hH3, upd_ne ne]
    exact (f2 b hb).1
  have st3 : tn 0 s3.heap := T.keep _ _ _ st2 fun b _ o e => by rw [h3]; exact Heap.get?_push_of_some _ e
  have I4 := block_start I3 ok hN f3
  generalize hcl : cellsFrom (s3.heap.objs.size + 1) scope.names (cloFrom X.env.cells scope.names []) = cl at I4
  have pg := hg s3 H3 s3.heap.objs.size cl fp
  have pk := hk s3 H3 s3.heap.objs.size cl fp
  have pe := he s3 H3 s3.heap.objs.size cl fp
  have goal : codeAny (model X.prog X.w) X.A (.compStart (.DictComp kx vx [⟨tg, iter, [], 0⟩] scope pos) 0 (.ref it) (.ref D) (compEnvC scope cl s3.heap.objs.size X.env))
      (compPost (model X.prog X.w) X.A X.xe use Qf (.ref D) s3.heap.objs.size) { s3 with heap := pushCells (s3.heap.push { cls := .type "dict", data := .dict #[] }) scope.names } := by
    have free3 : ∀ b ∈ fp, H3 b = none := fun b hb => (f3 b hb).1.1
    generalize hce : compEnvC scope cl s3.heap.objs.size X.env = ce at I4 pg pk pe ⊢
    have locals : ce.locals = s3.heap.objs.size := by subst hce; rfl
    generalize hs4 : ({ s3 with heap := pushCells (s3.heap.push { cls := .type "dict", data := .dict #[] }) scope.names } : Shared) = s4 at I4 ⊢
    have st4 : tn 0 s4.heap := T.keep _ _ _ st3 fun b _ o e => by rw [← hs4]; exact pushCells_keeps _ _ _ _ (Heap.get?_push_of_some _ e)
    have stat : ∀ {σ' : L2.St} {H' : Hp} {s' : Shared}, Inv (X.blk s3 H3 scope ce fp) [] σ' H' s' → (∀ b ∈ fp, H' b = none) → ∀ b ∈ fp, FpOk (X.blk s3 H3 scope ce fp) [] H' b := fun {σ' H' s'} I' hn b hb =>
      ⟨hn b hb, (I'.ok.exf b hb).1, I'.ok.exfs b hb, .inl hb, fun x c e => (I'.ok.exf b hb).2 x c e, fun p hp => absurd (show p ∈ ([] : List (Addr × Obj)) ++ [] from hp) (by simp)⟩
    have loop : codeAny (model X.prog X.w) X.A (.compLoop (.DictComp kx vx [⟨tg, iter, [], 0⟩] scope pos) 0 (.ref it) (.ref D) ce) (compPost (model X.prog X.w) X.A X.xe use Qf (.ref D) s3.heap.objs.size) s4 := by
      refine compLoop_anyD (fun n s' => ∃ i H', Inv (X.blk s3 H3 scope ce fp) [] (wipe σ (own.map (·.2))) H' s' ∧ tn i s'.heap ∧ (∀ b ∈ fp, H' b = none) ∧ W i n H') ?_ m0 ⟨0, H3, I4, st4, free3, w0⟩
      rintro n s5 ⟨i, H5, I5, st5, n5, w5⟩
      rcases turn i n H5 w5 with ⟨stop, qq⟩ | ⟨go, Nx, hNx, step⟩
      · refine thnF (T.done (X.blk s3 H3 scope ce fp) rfl rfl rfl hc i [] s5 _ H5 (fun _ _ => False) I5 (stat I5 n5) st5 stop) fun r s6 ⟨hr, I6⟩ => ?_
        subst hr
        have I7 : Inv X pins σ H5 s6 := I3.call' (ch := fp) I6.os I6.base I6.hok I6.bare fun b hb => by
          have z := (f3 b hb).1
          exact ⟨z.2.2.2.1, z.2.1, z.2.2.2.2.1, z.2.2.2.2.2⟩
        have nC : H5 s3.heap.objs.size = none := by
          rw [← locals]
          exact I6.free
        obtain ⟨m, hn, _⟩ := I6.loc
        have hn' : s6.heap.Ns s3.heap.objs.size m := by
          rw [← locals]
          exact hn
        exact hRR D s3.heap.objs.size s6 m H5 I7 qq hn' (I3.fpOk (Nat.le_refl _) nC)
      · refine thnF (T.item (X.blk s3 H3 scope ce fp) rfl rfl rfl hc i [] s5 _ H5 (fun _ _ => False) I5 (stat I5 n5) st5 go) fun r s6 ⟨u, hr, h6⟩ => ?_
        subst hr
        refine thnF h6 fun _ s7 ⟨x, H7, I7, r7, y7, st7, n7⟩ => ?_
        have I7' := I7.pinned (stat I7 n7) (T.obj _ _ st7)
        refine thnF (pg.run _ s7 _ H7 x u _ I7' r7 (step x H7 y7)) fun _ s8 ⟨σ8, H8, I8, hw8, q8⟩ => ?_
        refine wpAny_pure ?_
        rw [if_pos rfl]
        refine thnF (pk.run _ s8 σ8 H8 _ I8 q8) fun z s10 ⟨yv, H10, I10, r10, q10⟩ => ?_
        refine thnF (pe.run _ s10 σ8 H10 _ I10 q10) fun z2 s11 ⟨zv, H11, I11, r11, ents, k, b, ey, hD11, hb11, room, nx⟩ => ?_
        subst ey
        cases (show z = Value.ref b from r10)
        refine dset_tk (X := X.blk s3 H3 scope ce fp) hu I11 hD11 hb11 room r11 fun s12 I12 => ?_
        obtain ⟨m', hm, w'⟩ := hNx _ nx
        have pin' : ∀ c ∈ fp, ∀ o, s7.heap.get? c = some o → s12.heap.get? c = some o ∧ upd H11 D (.dT (putK ents k zv)) c = none := fun c hc' o e =>
          let z := I12.pin (c, o) (List.mem_append_right _ (List.mem_append_right _ (mem_pinsAt hc' e)))
          ⟨z.1, z.2.1⟩
        have len : (wipe σ (own.map (·.2))).length = σ8.length := by rw [← hw8, wipe_length]
        refine ⟨m', hm, i + 1, _, (I12.unpinned (pins := [])).weak len (fun j v e => ?_), T.keep _ _ _ st7 fun c hc' o e => (pin' c hc' o e).1, fun c hc' => ?_, w'⟩
        · rw [← hw8] at e
          exact (wipe_some e).1
        · obtain ⟨o, e, _⟩ := T.obj _ _ st7 c hc'
          exact (pin' c hc' o e).2
    exact codeAny_compStart_dict loop (T.self X.A 0 _ _ _ st4 loop)
  exact goal
theorem ps_setDcT {i : Nat} {y : PySem.Str} {py : Pos} {kx vx tg iter : Expr} {scope : Scope} {own : List (PySem.Str × Nat)} {pos spos : Pos} {wi : TI} {g : TG} {tk tv : TE} (hc : X.calm = true) (hN : X.N.Nodup) (hu : X.A.units + 1 < cLine) (hy : X.N[i]? = some y) (hyl : X.env.scope.names.lookup y = some .local)
    (hsw : swapsWith (.DictComp kx vx [⟨tg, iter, [], 0⟩] scope pos) (some (.Name y py)) spos.line X.env = pure true) (hi : PI X tg iter wi) (ok : BlkOk X.N X.env.scope scope own)
    (hg : ∀ (s : Shared) (H : Hp) (C : Addr) (cl : List (PySem.Str × Addr)) (fp : List Addr), PG (X.blk s H scope (compEnvC scope cl C X.env) fp) tg g)
    (hk : ∀ (s : Shared) (H : Hp) (C : Addr) (cl : List (PySem.Str × Addr)) (fp : List Addr), PE (X.blk s H scope (compEnvC scope cl C X.env) fp) kx tk)
    (he : ∀ (s : Shared) (H : Hp) (C : Addr) (cl : List (PySem.Str × Addr)) (fp : List Addr), PE (X.blk s H scope (compEnvC scope cl C X.env) fp) vx tv)
    (hs : ∀ x, foldedSetIterable iter X.env x = pure x := by intro _; rfl) :
    PS X (.Assign [.Name y py] (.DictComp kx vx [⟨tg, iter, [], 0⟩] scope pos) spos) (tAsg (tDcT wi g tk tv (own.map (·.2))) (gName i)) := by
  refine ⟨fun pins s σ H D I h => ?_⟩
  rw [exec_Assign_Name_used _ _ _ _ hsw]
  refine wpAny_bind (wpAny_standAt (wpAny_bind ?_))
  show wpAny _ X.A (do let _ ← comprehension (.DictComp kx vx [⟨tg, iter, [], 0⟩] scope pos) scope X.env (firstIterPos [⟨tg, iter, [], 0⟩] pos) newDict false (eval iter X.env) (some (assign (.Name y py) X.env))) _ _ s
  have h : tDcT wi g tk tv (own.map (·.2)) σ H (fun x H1 => gName i x σ H1 D.nx) := h
  refine wpAny_bind (thn (dc_core (Qf := fun _ s' => SP X pins D .next s') hc hN hu I hi ok hg hk he hs h fun L C s' m H' I' q hn f => ?_) fun _ s' hq => wpAny_pure (wpAny_pure hq))
  show wpAny _ _ (assign (.Name y py) X.env (.ref L)) _ _ _
  refine wpAny_assign_Name (store_ok2 (v := V.ref L) I' hN hy (.inl hyl) rfl (fun s2 I2 ⟨a, sb, ha⟩ => ?_) (.inr hyl))
  obtain ⟨f0, f1, f2, f3, f4, f5⟩ := f
  have haC : C ≠ a := by
    rcases ha with z | z
    · rw [z]; exact f1
    · exact fun e => f4 y a z e.symm
  refine ⟨m, hn.sameBut sb haC, fun h3 sb3 => ?_⟩
  exact ⟨_, H', I2.turned (t' := s2.toks) (fun b o hb e => (sb3.2 b hb).trans e) f0 f1 f3 f4 f5, q⟩
theorem swd_true {kx vx : Expr} {gs : List Comprehension} {scope : Scope} {pos py : Pos} {y : PySem.Str} {l : Nat} {env : Env} (hk : env.scope.kind = .function) (hy : env.scope.names.lookup y = some .local) (hl : (py.line == pos.line) = true)
    (ha : (scope.names.any fun (n, k) => n == y && (k == .local || k == .cell)) = false) : swapsWith (.DictComp kx vx gs scope pos) (some (.Name y py)) l env = pure true := by
  have ky : env.kindOf y = some .local := hy
  have hb : env.blockKind = .function := by unfold Env.blockKind; rw [hk]; rfl
  unfold swapsWith
  simp only [hb, ky, ha, Expr.pos, hl]
  rfl
end Nm
namespace Nm
open PySem PySem.Spec PyProof.Rows L2 NmD
/-! ### plans -/
def bestOf (rs : List (List Str)) (r : List Str) : List Str := ((nexts rs r).filter fun l => !(val rs l).1).headD []
/-- the plan under way: rows that wait, rows that are done, rows at which a word is told -/
structure PlS (rs : List (List Str)) (side : Int) (Wt Dn ks : List (List Str)) : Prop where
  nd : (Wt ++ Dn).Nodup
  sub : ∀ r ∈ Wt ++ Dn, r ∈ rs ∧ winS rs r = side
  nil : [] ∈ Wt ++ Dn
  own : ∀ r ∈ Dn, (r.length : Int) % 2 = side → r ∈ ks ∧ bestOf rs r ∈ Wt ++ Dn
  oth : ∀ r ∈ Dn, (r.length : Int) % 2 ≠ side → ∀ l ∈ nexts rs r, l ∈ Wt ++ Dn
  par : ∀ r ∈ Wt ++ Dn, r ≠ [] → r.dropLast ∈ Dn ∧ ((r.dropLast.length : Int) % 2 = side → r = bestOf rs r.dropLast)
  keys : ∀ r ∈ ks, r ∈ Dn ∧ (r.length : Int) % 2 = side
theorem next_ne {rs : List (List Str)} {r l : List Str} (h : l ∈ nexts rs r) : l ≠ [] ∧ l.dropLast = r := by
  obtain ⟨_, w, rfl⟩ := mem_nexts.mp h
  exact ⟨by simp, List.dropLast_concat⟩
theorem PlS.step {rs : List (List Str)} {side : Int} {W0 Dn ks nw ks' : List (List Str)} {r : List Str} (p : PlS rs side (W0 ++ [r]) Dn ks) (n1 : nw.Nodup) (n2 : ∀ l ∈ nw, l ∈ nexts rs r ∧ winS rs l = side)
    (hown : (r.length : Int) % 2 = side → r ∈ ks' ∧ bestOf rs r ∈ nw ∧ ∀ l ∈ nw, l = bestOf rs r) (hoth : (r.length : Int) % 2 ≠ side → ∀ l ∈ nexts rs r, l ∈ nw)
    (hk : ∀ x ∈ ks', x ∈ ks ∨ (x = r ∧ (r.length : Int) % 2 = side)) (hk2 : ∀ x ∈ ks, x ∈ ks') : PlS rs side (W0 ++ nw) (r :: Dn) ks' := by
  have old : ∀ x, x ∈ (W0 ++ [r]) ++ Dn → x ∈ (W0 ++ nw) ++ (r :: Dn) := fun x hx => by
    rcases List.mem_append.mp hx with h | h
    · rcases List.mem_append.mp h with h | h
      · exact List.mem_append_left _ (List.mem_append_left _ h)
      · rw [List.mem_singleton.mp h]
        exact List.mem_append_right _ List.mem_cons_self
    · exact List.mem_append_right _ (List.mem_cons_of_mem _ h)
  have new : ∀ x, x ∈ (W0 ++ nw) ++ (r :: Dn) → x ∈ nw ∨ x ∈ (W0 ++ [r]) ++ Dn := fun x hx => by
    rcases List.mem_append.mp hx with h | h
    · rcases List.mem_append.mp h with h | h
      · exact .inr (List.mem_append_left _ (List.mem_append_left _ h))
      · exact .inl h
    · rcases List.mem_cons.mp h with rfl | h
      · exact .inr (List.mem_append_left _ (List.mem_append_right _ List.mem_cons_self))
      · exact .inr (List.mem_append_right _ h)
  obtain ⟨ndW, ndD, dis⟩ := List.nodup_append.mp p.nd
  obtain ⟨ndW0, _, disr⟩ := List.nodup_append.mp ndW
  have rW : r ∈ W0 ++ [r] := List.mem_append_right _ List.mem_cons_self
  have rD : r ∉ Dn := fun h => dis r rW r h rfl
  have fresh : ∀ l ∈ nw, l ∉ (W0 ++ [r]) ++ Dn := fun l hl hm => by
    obtain ⟨ne, dl⟩ := next_ne (n2 l hl).1
    have := (p.par l hm ne).1
    rw [dl] at this
    exact rD this
  have nwm : ∀ l ∈ nw, l ∈ (W0 ++ nw) ++ (r :: Dn) := fun l hl => List.mem_append_left _ (List.mem_append_right _ hl)
  refine ⟨?_, fun x hx => ?_, old _ p.nil, fun x hx hm => ?_, fun x hx hm l hl => ?_, fun x hx ne => ?_, fun x hx => ?_⟩
  · refine List.nodup_append.mpr ⟨List.nodup_append.mpr ⟨ndW0, n1, fun a ha b hb e => ?_⟩, List.nodup_cons.mpr ⟨rD, ndD⟩, fun a ha b hb e => ?_⟩
    · exact fresh b hb (e ▸ List.mem_append_left _ (List.mem_append_left _ ha))
    · subst e
      rcases List.mem_append.mp ha with h | h
      · rcases List.mem_cons.mp hb with z | z
        · exact disr a h r List.mem_cons_self z
        · exact dis a (List.mem_append_left _ h) a z rfl
      · refine fresh a h ?_
        rcases List.mem_cons.mp hb with z | z
        · rw [z]
          exact List.mem_append_left _ rW
        · exact List.mem_append_right _ z
  · rcases new x hx with h | h
    · exact ⟨(mem_nexts.mp (n2 x h).1).1, (n2 x h).2⟩
    · exact p.sub x h
  · rcases List.mem_cons.mp hx with rfl | hx
    · exact ⟨(hown hm).1, nwm _ (hown hm).2.1⟩
    · obtain ⟨a, b⟩ := p.own x hx hm
      exact ⟨hk2 _ a, old _ b⟩
  · rcases List.mem_cons.mp hx with rfl | hx
    · exact nwm _ (hoth hm l hl)
    · exact old _ (p.oth x hx hm l hl)
  · rcases new x hx with h | h
    · obtain ⟨_, dl⟩ := next_ne (n2 x h).1
      rw [dl]
      exact ⟨List.mem_cons_self, fun hm => (hown hm).2.2 x h⟩
    · obtain ⟨a, b⟩ := p.par x h ne
      exact ⟨List.mem_cons_of_mem _ a, b⟩
  · rcases hk x hx with h | ⟨rfl, h⟩
    · obtain ⟨a, b⟩ := p.keys x h
      exact ⟨List.mem_cons_of_mem _ a, b⟩
    · exact ⟨List.mem_cons_self, h⟩
theorem mod2 (n : Nat) : ((n : Int) % 2 = 0 ∨ (n : Int) % 2 = 1) ∧ ((n + 1 : Nat) : Int) % 2 = 1 - (n : Int) % 2 := by omega
/-- the one who moves wins: the best word leads to where this one wins again -/
theorem best_ok {rs : List (List Str)} {side : Int} {r : List Str} (l60 : r.length ≤ 60) (hw : winS rs r = side) (hm : (r.length : Int) % 2 = side) : bestOf rs r ∈ nexts rs r ∧ (val rs (bestOf rs r)).1 = false ∧ winS rs (bestOf rs r) = side ∧ ((nexts rs r).filter fun l => !(val rs l).1)[0]? = some (bestOf rs r) := by
  have hv : (val rs r).1 = true := by
    cases e : (val rs r).1 with
    | true => rfl
    | false =>
      unfold winS at hw
      rw [e, if_neg Bool.false_ne_true] at hw
      have := (mod2 r.length).1
      omega
  obtain ⟨l, hl, lv⟩ := (val_win l60).mp hv
  have m : l ∈ (nexts rs r).filter fun l => !(val rs l).1 := List.mem_filter.mpr ⟨hl, by rw [lv]; rfl⟩
  unfold bestOf
  generalize e : (nexts rs r).filter (fun l => !(val rs l).1) = fs at m
  cases fs with
  | nil => cases m
  | cons b fs =>
    have mb : b ∈ (nexts rs r).filter fun l => !(val rs l).1 := by rw [e]; exact List.mem_cons_self
    obtain ⟨h1, h2⟩ := List.mem_filter.mp mb
    have vb : (val rs b).1 = false := by
      cases z : (val rs b).1 with
      | false => rfl
      | true => rw [z] at h2; cases h2
    refine ⟨h1, vb, ?_, rfl⟩
    show winS rs b = side
    unfold winS
    rw [vb, if_neg Bool.false_ne_true, nexts_len h1]
    have := (mod2 r.length).2
    omega
theorem oth_ok {rs : List (List Str)} {side : Int} {r : List Str} (l60 : r.length ≤ 60) (h01 : side = 0 ∨ side = 1) (hw : winS rs r = side) (hm : (r.length : Int) % 2 ≠ side) : ∀ l ∈ nexts rs r, winS rs l = side := fun l hl => by
  have hv : (val rs r).1 = false := by
    cases e : (val rs r).1 with
    | false => rfl
    | true =>
      unfold winS at hw
      rw [e, if_pos rfl] at hw
      exact absurd hw hm
  have lv : (val rs l).1 = true := by
    cases e : (val rs l).1 with
    | true => rfl
    | false =>
      have := (val_win l60).mpr ⟨l, hl, e⟩
      rw [hv] at this
      cases this
  unfold winS
  rw [lv, if_pos rfl, nexts_len hl]
  have a := (mod2 r.length).1
  have b := (mod2 r.length).2
  omega
theorem nexts_nd {rs : List (List Str)} (up : rs.Pairwise bef) (r : List Str) : (nexts rs r).Nodup := List.Pairwise.filter _ (bef_nodup up)
theorem PlS.len {rs : List (List Str)} {side : Int} {Wt Dn ks : List (List Str)} (p : PlS rs side Wt Dn ks) : Wt.length + Dn.length ≤ rs.length := by
  have := List.Nodup.length_le_of_subset p.nd fun x hx => (p.sub x hx).1
  rw [List.length_append] at this
  exact this
/-! ### words struck -/
/-- what is left of a game: the rows that begin with no struck one -/
def struckOf (rs gone : List (List Str)) : List (List Str) := rs.filter fun r => !(gone.map fun g => decide (r.take g.length = g)).any id
theorem mem_struck {rs gone : List (List Str)} {r : List Str} : r ∈ struckOf rs gone ↔ r ∈ rs ∧ ∀ g ∈ gone, ¬ g <+: r := by
  unfold struckOf
  rw [List.mem_filter, List.any_map]
  constructor
  · rintro ⟨h1, h2⟩
    refine ⟨h1, fun g hg hp => ?_⟩
    have : (gone.any (id ∘ fun g => decide (r.take g.length = g))) = true := List.any_eq_true.mpr ⟨g, hg, decide_eq_true (List.prefix_iff_eq_take.mp hp).symm⟩
    rw [this] at h2
    cases h2
  · rintro ⟨h1, h2⟩
    refine ⟨h1, ?_⟩
    cases e : gone.any (id ∘ fun g => decide (r.take g.length = g)) with
    | false => rfl
    | true =>
      obtain ⟨g, hg, z⟩ := List.any_eq_true.mp e
      exact absurd (List.prefix_iff_eq_take.mpr (of_decide_eq_true z).symm) (h2 g hg)
theorem isG_struck {rs gone : List (List Str)} (G : IsG rs) (ne : ∀ g ∈ gone, g ≠ []) : IsG (struckOf rs gone) :=
  ⟨List.Pairwise.filter _ G.up, mem_struck.mpr ⟨G.nil, fun g hg hp => ne g hg (List.prefix_nil.mp hp)⟩, fun r hr => by
    obtain ⟨h1, h2⟩ := mem_struck.mp hr
    exact mem_struck.mpr ⟨G.pre r h1, fun g hg hp => h2 g hg (hp.trans (List.dropLast_prefix r))⟩, fun r hr => G.ok r (mem_struck.mp hr).1, Nat.le_trans (List.length_filter_le _ _) G.few⟩
/-- striking words of side x never lets x win where it did not -/
theorem struck_win {rs gone : List (List Str)} {x : Int} (G : IsG rs) (h01 : x = 0 ∨ x = 1) (side : ∀ g ∈ gone, g ∈ rs ∧ g ≠ [] ∧ ((g.dropLast.length : Int) % 2) = x) : ∀ (n : Nat) (r : List Str), 61 - r.length = n → r ∈ struckOf rs gone → winS (struckOf rs gone) r = x → winS rs r = x
  | 0, r, hn, hr, _ => by
    have := (G.ok r (mem_struck.mp hr).1).1
    omega
  | n + 1, r, hn, hr, hw => by
    obtain ⟨mr, free⟩ := mem_struck.mp hr
    have l60 := (G.ok r mr).1
    have m01 := (mod2 r.length).1
    have up : ∀ l ∈ nexts (struckOf rs gone) r, l ∈ nexts rs r := fun l hl => by
      obtain ⟨a, b⟩ := mem_nexts.mp hl
      exact mem_nexts.mpr ⟨(mem_struck.mp a).1, b⟩
    have ih : ∀ l ∈ nexts (struckOf rs gone) r, winS (struckOf rs gone) l = x → winS rs l = x := fun l hl => struck_win G h01 side n l (by rw [nexts_len hl]; omega) (mem_nexts.mp hl).1
    have lm := (mod2 r.length).2
    by_cases hm : (r.length : Int) % 2 = x
    · -- x moves
      obtain ⟨b1, b2, b3, _⟩ := best_ok l60 hw hm
      have w := ih _ b1 b3
      have lv : (val rs (bestOf (struckOf rs gone) r)).1 = false := by
        cases e : (val rs (bestOf (struckOf rs gone) r)).1 with
        | false => rfl
        | true =>
          unfold winS at w
          rw [e, if_pos rfl, nexts_len b1] at w
          omega
      have v : (val rs r).1 = true := (val_win l60).mpr ⟨_, up _ b1, lv⟩
      unfold winS
      rw [v, if_pos rfl]
      exact hm
    · -- the other one moves
      have all := oth_ok l60 h01 hw hm
      have v : (val rs r).1 = false := by
        cases e : (val rs r).1 with
        | false => rfl
        | true =>
          obtain ⟨l, hl, lv⟩ := (val_win l60).mp e
          have hl' : l ∈ nexts (struckOf rs gone) r := by
            obtain ⟨a, w, rfl⟩ := mem_nexts.mp hl
            refine mem_nexts.mpr ⟨mem_struck.mpr ⟨a, fun g hg hp => ?_⟩, w, rfl⟩
            rcases List.prefix_concat_iff.mp hp with z | z
            · have := (side g hg).2.2
              rw [z, List.dropLast_concat] at this
              exact hm this
            · exact free g hg z
          have w := ih l hl' (all l hl')
          unfold winS at w
          rw [lv, if_neg Bool.false_ne_true, nexts_len hl] at w
          omega
      unfold winS
      rw [v, if_neg Bool.false_ne_true]
      omega
/-- words that a plan does not need may be struck -/
theorem plan_keeps {rs gone Dn ks : List (List Str)} {side : Int} (G : IsG rs) (h01 : side = 0 ∨ side = 1) (p : PlS rs side [] Dn ks)
    (free : ∀ g ∈ gone, g ∈ rs ∧ g ≠ [] ∧ ((g.dropLast.length : Int) % 2) = side ∧ ∀ k ∈ ks, g ≠ bestOf rs k) : winS (struckOf rs gone) [] = side := by
  -- every row that comes is left
  have stay : ∀ (m : Nat) (r : List Str), r.length = m → r ∈ Dn → r ∈ struckOf rs gone := by
    intro m
    induction m with
    | zero =>
      intro r hl hr
      rw [List.eq_nil_of_length_eq_zero hl]
      exact mem_struck.mpr ⟨G.nil, fun g hg hp => (free g hg).2.1 (List.prefix_nil.mp hp)⟩
    | succ m ih =>
      intro r hl hr
      have ne : r ≠ [] := fun e => by rw [e] at hl; cases hl
      obtain ⟨a, b⟩ := p.par r (by simpa using hr) ne
      have st := ih r.dropLast (by rw [List.length_dropLast]; omega) a
      refine mem_struck.mpr ⟨(p.sub r (by simpa using hr)).1, fun g hg hp => ?_⟩
      rw [← List.dropLast_concat_getLast ne] at hp
      rcases List.prefix_concat_iff.mp hp with z | z
      · rw [List.dropLast_concat_getLast ne] at z
        subst z
        obtain ⟨_, _, h3, h4⟩ := free g hg
        obtain ⟨k1, _⟩ := p.own _ a h3
        exact h4 _ k1 (b h3)
      · exact (mem_struck.mp st).2 g hg z
  have main : ∀ (n : Nat) (r : List Str), 61 - r.length = n → r ∈ Dn → winS (struckOf rs gone) r = side := by
    intro n
    induction n with
    | zero =>
      intro r hn hr
      have := (G.ok r (p.sub r (by simpa using hr)).1).1
      omega
    | succ n ih =>
      intro r hn hr
      have mr := (p.sub r (by simpa using hr)).1
      have l60 := (G.ok r mr).1
      have lm := (mod2 r.length).2
      have m01 := (mod2 r.length).1
      by_cases hm : (r.length : Int) % 2 = side
      · obtain ⟨k1, k2⟩ := p.own r hr hm
        have k2' : bestOf rs r ∈ Dn := by simpa using k2
        obtain ⟨b1, _, _, _⟩ := best_ok l60 (p.sub r (by simpa using hr)).2 hm
        have w := ih _ (by rw [nexts_len b1]; omega) k2'
        have lv : (val (struckOf rs gone) (bestOf rs r)).1 = false := by
          cases e : (val (struckOf rs gone) (bestOf rs r)).1 with
          | false => rfl
          | true =>
            unfold winS at w
            rw [e, if_pos rfl, nexts_len b1] at w
            omega
        have v : (val (struckOf rs gone) r).1 = true := (val_win l60).mpr ⟨_, mem_nexts.mpr ⟨stay _ _ rfl k2', (mem_nexts.mp b1).2⟩, lv⟩
        unfold winS
        rw [v, if_pos rfl]
        exact hm
      · have v : (val (struckOf rs gone) r).1 = false := by
          cases e : (val (struckOf rs gone) r).1 with
          | false => rfl
          | true =>
            obtain ⟨l, hl, lv⟩ := (val_win l60).mp e
            obtain ⟨a, b⟩ := mem_nexts.mp hl
            have ml : l ∈ Dn := by simpa using p.oth r hr hm l (mem_nexts.mpr ⟨(mem_struck.mp a).1, b⟩)
            have w := ih l (by rw [nexts_len hl]; omega) ml
            unfold winS at w
            rw [lv, if_neg Bool.false_ne_true, nexts_len hl] at w
            omega
        unfold winS
        rw [v, if_neg Bool.false_ne_true]
        omega
  exact main _ [] rfl (by simpa using p.nil)
/-- a word more behind which nothing is let wins for the one who plays it -/
theorem end_wins {rs ms : List (List Str)} {row : List Str} {w : Str} (l60 : row.length ≤ 59) (m : row ++ [w] ∈ ms) (leaf : ∀ z, (row ++ [w]) ++ [z] ∉ ms) : winS ms row = (row.length : Int) % 2 := by
  have lv : (val ms (row ++ [w])).1 = false := by
    cases e : (val ms (row ++ [w])).1 with
    | false => rfl
    | true =>
      obtain ⟨l, hl, _⟩ := (val_win (by rw [List.length_append, List.length_singleton]; omega)).mp e
      obtain ⟨a, z, rfl⟩ := mem_nexts.mp hl
      exact absurd a (leaf z)
  have v : (val ms row).1 = true := (val_win (by omega)).mpr ⟨_, mem_nexts.mpr ⟨m, w, rfl⟩, lv⟩
  unfold winS
  rw [v, if_pos rfl]
end Nm
namespace Nm
open PySem PySem.Spec PyProof.Rows L2 NmD
/-! ### games in which every line has so many words; games before which a word is put; what is left behind a row -/
theorem val_none {rs : List (List Str)} {row : List Str} (h : row.length ≤ 60) (e : nexts rs row = []) : val rs row = (false, 0) := by
  rw [val_eq rs h, e]
  rfl
/-- the same is told of every row behind -/
theorem val_same {rs : List (List Str)} {row : List Str} {b : Bool} {m : Int} (h : row.length ≤ 60) (ne : nexts rs row ≠ []) (m0 : 0 ≤ m) (all : ∀ l ∈ nexts rs row, val rs l = (b, m)) : val rs row = (!b, 1 + m) := by
  rw [val_eq rs h]
  have e : (nexts rs row).map (val rs) = List.replicate (nexts rs row).length (b, m) := by
    rw [← List.map_const']
    exact List.map_congr_left all
  rw [e]
  have pos : (nexts rs row).length ≠ 0 := fun z => ne (List.eq_nil_of_length_eq_zero z)
  generalize (nexts rs row).length = n at pos
  have mem : (b, m) ∈ List.replicate n (b, m) := List.mem_replicate.mpr ⟨pos, rfl⟩
  cases b with
  | false =>
    have f : ((List.replicate n (false, m)).filter fun t => !t.1).map (·.2) = List.replicate n m := by
      rw [List.filter_eq_self.mpr fun t ht => by rw [List.eq_of_mem_replicate ht]; rfl, List.map_replicate]
    refine (step_win (m := m) ?_ ?_ ?_)
    · rw [f]
      intro z
      exact pos (by have := congrArg List.length z; simpa using this)
    · rw [f]
      exact List.mem_replicate.mpr ⟨pos, rfl⟩
    · rw [f]
      intro y hy
      rw [List.eq_of_mem_replicate hy]
      exact Int.le_refl _
  | true =>
    have f : ((List.replicate n (true, m)).filter fun t => !t.1).map (·.2) = [] := by
      rw [List.filter_eq_nil_iff.mpr fun t ht => by rw [List.eq_of_mem_replicate ht]; exact fun z => Bool.noConfusion z]
      rfl
    have g : (List.replicate n (true, m)).map (fun t => 1 + t.2) = List.replicate n (1 + m) := by rw [List.map_replicate]
    refine step_lose f (m := 1 + m) ?_ ?_ ?_
    · rw [g]
      exact List.mem_replicate.mpr ⟨pos, rfl⟩
    · rw [g]
      intro y hy
      rw [List.eq_of_mem_replicate hy]
      exact Int.le_refl _
    · rw [g]
      intro y hy
      rw [List.eq_of_mem_replicate hy]
      omega
/-- every line of the game has d words -/
structure UnG (rs : List (List Str)) (d : Nat) : Prop where
  len : ∀ r ∈ rs, r.length ≤ d
  more : ∀ r ∈ rs, r.length < d → ∃ w, r ++ [w] ∈ rs
theorem un_val {rs : List (List Str)} {d : Nat} (u : UnG rs d) (d60 : d ≤ 60) : ∀ (n : Nat) (r : List Str), r ∈ rs → d - r.length = n → val rs r = (decide (n % 2 = 1), (n : Int))
  | 0, r, hr, hn => by
    have l := u.len r hr
    refine val_none (by omega) ?_
    cases e : nexts rs r with
    | nil => rfl
    | cons x _ =>
      have m : x ∈ nexts rs r := by rw [e]; exact List.mem_cons_self
      have := u.len x (mem_nexts.mp m).1
      rw [nexts_len m] at this
      omega
  | n + 1, r, hr, hn => by
    have l := u.len r hr
    obtain ⟨w, hw⟩ := u.more r hr (by omega)
    have ne : nexts rs r ≠ [] := fun e => by
      have m : r ++ [w] ∈ nexts rs r := mem_nexts.mpr ⟨hw, w, rfl⟩
      rw [e] at m
      cases m
    have v := val_same (b := decide (n % 2 = 1)) (m := (n : Int)) (by omega) ne (by omega) fun x hx => un_val u d60 n x (mem_nexts.mp hx).1 (by rw [nexts_len hx]; omega)
    rw [v]
    have e1 : (!decide (n % 2 = 1)) = decide ((n + 1) % 2 = 1) := by
      by_cases c : n % 2 = 1
      · rw [decide_eq_true c, decide_eq_false (by omega)]
        rfl
      · rw [decide_eq_false c, decide_eq_true (by omega)]
        rfl
    rw [e1]
    congr 1
    omega
theorem un_win {rs : List (List Str)} {d : Nat} (u : UnG rs d) (d60 : d ≤ 60) (nil : [] ∈ rs) : winS rs [] = 1 - (d : Int) % 2 ∧ (val rs []).2 = (d : Int) := by
  have v := un_val u d60 d [] nil rfl
  unfold winS
  rw [v]
  refine ⟨?_, rfl⟩
  by_cases c : d % 2 = 1
  · rw [decide_eq_true c, if_pos rfl]
    show (0 : Int) % 2 = _
    omega
  · rw [decide_eq_false c, if_neg Bool.false_ne_true]
    show 1 - (0 : Int) % 2 = _
    omega
/-- what is told behind a row is what is told there -/
theorem nexts_behind {rs : List (List Str)} (row more : List Str) : (nexts (behindOf rs row) more).map (fun l => row ++ l) = nexts rs (row ++ more) := by
  unfold behindOf nexts
  rw [List.filter_map, List.map_map, List.filter_filter]
  refine Eq.trans (b := (rs.filter (isNext (row ++ more))).map id) ?_ (List.map_id _)
  have e : rs.filter (fun a => ((isNext more ∘ List.drop row.length) a && decide (a.take row.length = row))) = rs.filter (isNext (row ++ more)) := List.filter_congr fun l hl => by
    show (isNext more (l.drop row.length) && decide (l.take row.length = row)) = isNext (row ++ more) l
    rw [Bool.eq_iff_iff, Bool.and_eq_true, isNext_iff, isNext_iff, decide_eq_true_eq]
    constructor
    · rintro ⟨⟨w, h1⟩, h2⟩
      refine ⟨w, ?_⟩
      rw [← List.take_append_drop row.length l, h1, h2, List.append_assoc]
    · rintro ⟨w, rfl⟩
      rw [List.append_assoc]
      exact ⟨⟨w, List.drop_left ..⟩, List.take_left ..⟩
  rw [e]
  refine List.map_congr_left fun l hl => ?_
  obtain ⟨w, rfl⟩ := isNext_iff.mp (List.mem_filter.mp hl).2
  show row ++ ((row ++ more ++ [w]).drop row.length) = row ++ more ++ [w]
  rw [List.append_assoc, List.drop_left]
theorem val_behind {rs : List (List Str)} (row : List Str) : ∀ (n : Nat) (more : List Str), 61 - (row ++ more).length = n → (row ++ more).length ≤ 60 → (∀ r ∈ rs, r.length ≤ 60) → val (behindOf rs row) more = val rs (row ++ more)
  | 0, more, hn, hl, _ => by omega
  | n + 1, more, hn, hl, ok => by
    have hl' := hl
    rw [List.length_append] at hl'
    rw [val_eq _ hl, val_eq (behindOf rs row) (by omega), ← nexts_behind row more, List.map_map]
    congr 1
    refine List.map_congr_left fun l hx => ?_
    have ll := nexts_len hx
    have mm : row ++ l ∈ rs := mem_behind.mp (mem_nexts.mp hx).1
    have lm := ok _ mm
    refine val_behind row n l ?_ lm ok
    rw [List.length_append, ll]
    rw [List.length_append] at hn
    omega
theorem win_behind {rs : List (List Str)} (G : IsG rs) {row more : List Str} (m : row ++ more ∈ rs) : winS (behindOf rs row) more = (winS rs (row ++ more) + (row.length : Int)) % 2 ∧ (val (behindOf rs row) more).2 = (val rs (row ++ more)).2 := by
  have v := val_behind row _ more rfl (G.ok _ m).1 fun r hr => (G.ok r hr).1
  unfold winS
  rw [v, List.length_append]
  refine ⟨?_, rfl⟩
  cases (val rs (row ++ more)).1 with
  | true =>
    rw [if_pos rfl, if_pos rfl]
    omega
  | false =>
    rw [if_neg Bool.false_ne_true, if_neg Bool.false_ne_true]
    omega
theorem good_behind {rs : List (List Str)} (G : IsG rs) {row more : List Str} (m : row ++ more ∈ rs) : ((nexts (behindOf rs row) more).filter fun l => !(val (behindOf rs row) l).1).map lastW = ((nexts rs (row ++ more)).filter fun l => !(val rs l).1).map lastW := by
  rw [← nexts_behind row more, List.filter_map, List.map_map]
  have e : (nexts (behindOf rs row) more).filter ((fun l => !(val rs l).1) ∘ fun l => row ++ l) = (nexts (behindOf rs row) more).filter fun l => !(val (behindOf rs row) l).1 := List.filter_congr fun l hl => by
    have mm : row ++ l ∈ rs := mem_behind.mp (mem_nexts.mp hl).1
    show (!(val rs (row ++ l)).1) = _
    rw [val_behind row _ l rfl (G.ok _ mm).1 fun r hr => (G.ok r hr).1]
  rw [e]
  refine List.map_congr_left fun l hl => ?_
  obtain ⟨_, w, rfl⟩ := mem_nexts.mp (List.mem_filter.mp hl).1
  show lastW (more ++ [w]) = lastW (row ++ (more ++ [w]))
  rw [← List.append_assoc, lastW_snoc, lastW_snoc]
/-- a word put before all rows -/
theorem nexts_put (w : Str) (rs : List (List Str)) (r : List Str) : nexts ([] :: rs.map fun q => w :: q) (w :: r) = (nexts rs r).map fun q => w :: q := by
  unfold nexts
  rw [List.filter_cons_of_neg (by unfold isNext; rw [decide_eq_false (by show ¬ (0 = (w :: r).length + 1); omega), Bool.false_and]; exact Bool.false_ne_true), List.filter_map]
  congr 1
  refine List.filter_congr fun q _ => ?_
  show isNext (w :: r) (w :: q) = isNext r q
  rw [Bool.eq_iff_iff, isNext_iff, isNext_iff]
  constructor
  · rintro ⟨z, e⟩
    exact ⟨z, (List.cons.inj e).2⟩
  · rintro ⟨z, rfl⟩
    exact ⟨z, rfl⟩
theorem val_put {w : Str} {rs : List (List Str)} (short : ∀ r ∈ rs, r.length < 60) : ∀ (n : Nat) (r : List Str), 61 - r.length = n → r ∈ rs → val ([] :: rs.map fun q => w :: q) (w :: r) = val rs r
  | 0, r, hn, hr => by
    have := short r hr
    omega
  | n + 1, r, hn, hr => by
    have l := short r hr
    rw [val_eq _ (show (w :: r).length ≤ 60 by rw [List.length_cons]; omega), val_eq rs (by omega), nexts_put, List.map_map]
    congr 1
    refine List.map_congr_left fun q hq => ?_
    exact val_put short n q (by rw [nexts_len hq]; omega) (mem_nexts.mp hq).1
end Nm
namespace Nm
open PySem PySem.Spec PyProof.Rows L2 NmD
theorem shaped_rwL {r : List Str} (h : ∀ z ∈ r, wordOk z) : SeqAt.shaped (.list (rowL r)) = true := by
  unfold SeqAt.shaped
  rw [PyData.canLay0, lay_rowL r fun z hz => lay_word (h z hz), PyData.depth, depth_rowL]
  rfl
theorem eqv_rwL (a b : List Str) : PyData.eqv (.list (rowL a)) (.list (rowL b)) = decide (a = b) := by rw [PyData.eqv, eqv_rowL]
theorem dp_strL {K : PySem.W.Frag} {H : Hp} {a : Addr} {ws : List Str} (h : H a = some (.lst (ws.map V.str))) : Dp K H (.ref a) (.list (rowL ws)) := .lst (SqL.of h) (dpAll_row ws)
/-- rows that go together: no more than those of a game and the beginnings of the others -/
theorem begs_more {og qs gs : List (List Str)} (G : IsG og) (b : Begs (og ++ qs) gs) : gs.length ≤ og.length + (qs.map fun r => r.length + 1).sum := by
  have s := List.Nodup.length_le_of_subset (l₂ := og ++ qs.flatMap fun r => (List.range (r.length + 1)).map r.take) (bef_nodup b.up) (fun x hx => by
    rcases (b.mem x).mp hx with rfl | ⟨r, hr, p⟩
    · exact List.mem_append_left _ G.nil
    · rcases List.mem_append.mp hr with m | m
      · exact List.mem_append_left _ (G.pfx m p)
      · refine List.mem_append_right _ (List.mem_flatMap.mpr ⟨r, m, List.mem_map.mpr ⟨x.length, List.mem_range.mpr ?_, (List.prefix_iff_eq_take.mp p).symm⟩⟩)
        have := p.length_le
        omega)
  have e : (qs.flatMap fun r => (List.range (r.length + 1)).map r.take).length = (qs.map fun r => r.length + 1).sum := by
    rw [List.length_flatMap]
    congr 1
    refine List.map_congr_left fun r _ => ?_
    rw [List.length_map, List.length_range]
  rw [List.length_append, e] at s
  exact s
theorem sum_le {β : Type} (f : β → Nat) (c : Nat) : ∀ l : List β, (∀ x ∈ l, f x ≤ c) → (l.map f).sum ≤ c * l.length
  | [], _ => by simp
  | x :: l, h => by
    have h1 := h x List.mem_cons_self
    have h2 := sum_le f c l fun y hy => h y (List.mem_cons_of_mem _ hy)
    rw [List.map_cons, List.sum_cons, List.length_cons, Nat.mul_succ]
    omega
/-- the beginnings of a row that are not yet there -/
def newPre (ds : List (List Str)) (row : List Str) : List (List Str) := ((List.range (row.length + 1)).filter fun k => decide (row.take k ∉ ds)).map row.take
theorem mem_newPre {ds : List (List Str)} {row x : List Str} : x ∈ newPre ds row ↔ x <+: row ∧ x ∉ ds := by
  unfold newPre
  rw [List.mem_map]
  constructor
  · rintro ⟨k, hk, rfl⟩
    exact ⟨List.take_prefix _ _, of_decide_eq_true (List.mem_filter.mp hk).2⟩
  · rintro ⟨p, n⟩
    have e := (List.prefix_iff_eq_take.mp p).symm
    refine ⟨x.length, List.mem_filter.mpr ⟨List.mem_range.mpr ?_, decide_eq_true (by rw [e]; exact n)⟩, e⟩
    have := p.length_le
    omega
theorem newPre_nd (ds : List (List Str)) (row : List Str) : (newPre ds row).Nodup := by
  unfold newPre
  rw [List.Nodup, List.pairwise_map]
  refine List.Pairwise.imp_of_mem ?_ (List.Pairwise.filter _ (List.nodup_range (n := row.length + 1)))
  intro a b ha hb n e
  have la := List.mem_range.mp (List.mem_filter.mp ha).1
  have lb := List.mem_range.mp (List.mem_filter.mp hb).1
  have := congrArg List.length e
  rw [List.length_take, List.length_take] at this
  omega
end Nm
namespace Nm
open PySem PySem.Spec PyProof.Rows L2 NmD
/-! ### a word before all rows; two games behind two words -/
theorem cons_bef (w : Str) (a b : List Str) : rowLt (w :: a) (w :: b) = rowLt a b := by
  show lexLt itemOrd (PySem.W.keyToks (.str w) ++ PySem.W.keyToksAll (rowL a)) (PySem.W.keyToks (.str w) ++ PySem.W.keyToksAll (rowL b)) = _
  exact PySem.W.lex_pre _ _ _
theorem put_up {w : Str} {rs : List (List Str)} (up : rs.Pairwise bef) : (([] : List Str) :: rs.map fun r => w :: r).Pairwise bef := by
  refine List.pairwise_cons.mpr ⟨fun x hx => ?_, List.pairwise_map.mpr (up.imp fun {a b} h => by show rowLt _ _ = true; rw [cons_bef]; exact h)⟩
  obtain ⟨r, _, rfl⟩ := List.mem_map.mp hx
  exact nil_bef _ _
theorem nexts_under {gs rs : List (List Str)} {w : Str} (up : gs.Pairwise bef) (upr : rs.Pairwise bef) (mem : ∀ r, w :: r ∈ gs ↔ r ∈ rs) (r : List Str) : nexts gs (w :: r) = (nexts rs r).map fun q => w :: q := by
  refine rows_one (List.Pairwise.filter _ up) (List.pairwise_map.mpr ((List.Pairwise.filter _ upr).imp fun {a b} h => by show rowLt _ _ = true; rw [cons_bef]; exact h)) fun z => ?_
  rw [mem_nexts, List.mem_map]
  constructor
  · rintro ⟨h1, v, rfl⟩
    exact ⟨r ++ [v], mem_nexts.mpr ⟨(mem _).mp h1, v, rfl⟩, rfl⟩
  · rintro ⟨q, hq, rfl⟩
    obtain ⟨h1, v, rfl⟩ := mem_nexts.mp hq
    exact ⟨(mem _).mpr h1, v, rfl⟩
theorem val_under {gs rs : List (List Str)} {w : Str} (up : gs.Pairwise bef) (upr : rs.Pairwise bef) (mem : ∀ r, w :: r ∈ gs ↔ r ∈ rs) (short : ∀ r ∈ rs, r.length < 60) : ∀ (n : Nat) (r : List Str), 61 - r.length = n → r ∈ rs → val gs (w :: r) = val rs r
  | 0, r, hn, hr => by
    have := short r hr
    omega
  | n + 1, r, hn, hr => by
    have l := short r hr
    rw [val_eq _ (show (w :: r).length ≤ 60 by rw [List.length_cons]; omega), val_eq rs (by omega), nexts_under up upr mem, List.map_map]
    congr 1
    refine List.map_congr_left fun q hq => ?_
    exact val_under up upr mem short n q (by rw [nexts_len hq]; omega) (mem_nexts.mp hq).1
/-- who wins at the start -/
theorem win_nil (rs : List (List Str)) : winS rs [] = if (val rs []).1 = true then 0 else 1 := by
  unfold winS
  cases (val rs []).1 with
  | true => rfl
  | false => rfl
theorem step_one (b : Bool) (m : Int) (h : 0 ≤ m) : stepV [(b, m)] = (!b, 1 + m) := by
  cases b with
  | false => exact step_win (told := [(false, m)]) (m := m) (show [m] ≠ [] from List.cons_ne_nil _ _) (by exact List.mem_singleton.mpr rfl) (fun y hy => by rw [List.mem_singleton.mp hy]; exact Int.le_refl _)
  | true => exact step_lose (m := 1 + m) rfl (List.mem_singleton.mpr rfl) (fun y hy => by rw [List.mem_singleton.mp hy]; exact Int.le_refl _) (fun y hy => by rw [List.mem_singleton.mp hy]; show 0 ≤ 1 + m; omega)
/-- of a game behind one new word -/
theorem put_val {rs gs : List (List Str)} {w : Str} (G : IsG rs) (up : gs.Pairwise bef) (mem : ∀ z, z ∈ gs ↔ z = [] ∨ ∃ r ∈ rs, z = w :: r) (short : ∀ r ∈ rs, r.length < 60) : val gs [] = (!(val rs []).1, 1 + (val rs []).2) := by
  have m1 : ∀ r, w :: r ∈ gs ↔ r ∈ rs := fun r => by
    rw [mem]
    constructor
    · rintro (h | ⟨q, hq, e⟩)
      · cases h
      · cases e
        exact hq
    · exact fun h => .inr ⟨r, h, rfl⟩
  have e : nexts gs [] = [[w]] := rows_one (List.Pairwise.filter _ up) (List.pairwise_singleton _ _) fun z => by
    rw [mem_nexts, List.mem_singleton]
    constructor
    · rintro ⟨h1, v, rfl⟩
      rcases (mem _).mp h1 with h | ⟨q, hq, e⟩
      · cases h
      · cases e
        rfl
    · rintro rfl
      exact ⟨(m1 []).mpr G.nil, w, rfl⟩
  rw [val_eq gs (Nat.zero_le _), e]
  show stepV [val gs [w]] = _
  rw [val_under up G.up m1 short _ [] rfl G.nil]
  exact step_one _ _ (val_pos rs [])
/-- of two games behind two new words -/
theorem two_val {rs qs gs : List (List Str)} {x y : Str} (xy : bef [x] [y]) (nxy : x ≠ y) (G : IsG rs) (G2 : IsG qs) (up : gs.Pairwise bef) (mem : ∀ z, z ∈ gs ↔ z = [] ∨ (∃ r ∈ rs, z = x :: r) ∨ ∃ r ∈ qs, z = y :: r) (short : ∀ r ∈ rs, r.length < 60) (short2 : ∀ r ∈ qs, r.length < 60) : nexts gs [] = [[x], [y]] ∧ val gs [x] = val rs [] ∧ val gs [y] = val qs [] := by
  have m1 : ∀ r, x :: r ∈ gs ↔ r ∈ rs := fun r => by
    rw [mem]
    constructor
    · rintro (h | ⟨q, hq, e⟩ | ⟨q, hq, e⟩)
      · cases h
      · cases e
        exact hq
      · exact absurd (List.cons.inj e).1 nxy
    · exact fun h => .inr (.inl ⟨r, h, rfl⟩)
  have m2 : ∀ r, y :: r ∈ gs ↔ r ∈ qs := fun r => by
    rw [mem]
    constructor
    · rintro (h | ⟨q, hq, e⟩ | ⟨q, hq, e⟩)
      · cases h
      · exact absurd (List.cons.inj e).1.symm nxy
      · cases e
        exact hq
    · exact fun h => .inr (.inr ⟨r, h, rfl⟩)
  refine ⟨rows_one (List.Pairwise.filter _ up) (List.pairwise_cons.mpr ⟨fun z hz => by rw [List.mem_singleton.mp hz]; exact xy, List.pairwise_singleton _ _⟩) fun z => ?_, val_under up G.up m1 short _ [] rfl G.nil, val_under up G2.up m2 short2 _ [] rfl G2.nil⟩
  rw [mem_nexts]
  constructor
  · rintro ⟨h1, v, rfl⟩
    rcases (mem _).mp h1 with h | ⟨q, hq, e⟩ | ⟨q, hq, e⟩
    · cases h
    · cases e
      exact List.mem_cons_self
    · cases e
      exact List.mem_cons_of_mem _ List.mem_cons_self
  · intro h
    rcases List.mem_cons.mp h with rfl | h
    · exact ⟨(m1 []).mpr G.nil, x, rfl⟩
    · rw [List.mem_singleton.mp h]
      exact ⟨(m2 []).mpr G2.nil, y, rfl⟩
/-- one step over two -/
theorem step_two (b c : Bool) (m n : Int) (hm : 0 ≤ m) (hn : 0 ≤ n) : stepV [(b, m), (c, n)] = if b = true ∧ c = true then (false, 1 + max m n) else (true, 1 + (if b = true then n else if c = true then m else min m n)) := by
  cases b with
  | true =>
    cases c with
    | true =>
      rw [if_pos ⟨rfl, rfl⟩]
      refine step_lose (m := 1 + max m n) rfl ?_ (fun y hy => ?_) (fun y hy => ?_)
      · rcases Int.le_total m n with h | h
        · rw [Int.max_eq_right h]
          exact List.mem_cons_of_mem _ List.mem_cons_self
        · rw [Int.max_eq_left h]
          exact List.mem_cons_self
      · rcases List.mem_cons.mp hy with rfl | hy
        · show 1 + m ≤ _
          omega
        · rw [List.mem_singleton.mp hy]
          show 1 + n ≤ _
          omega
      · rcases List.mem_cons.mp hy with rfl | hy
        · show 0 ≤ 1 + m
          omega
        · rw [List.mem_singleton.mp hy]
          show 0 ≤ 1 + n
          omega
    | false =>
      rw [if_neg (fun h => Bool.noConfusion h.2), if_pos rfl]
      exact step_win (told := [(true, m), (false, n)]) (m := n) (show [n] ≠ [] from List.cons_ne_nil _ _) (List.mem_singleton.mpr rfl) (fun y hy => by rw [List.mem_singleton.mp hy]; exact Int.le_refl _)
  | false =>
    cases c with
    | true =>
      rw [if_neg (fun h => Bool.noConfusion h.1), if_neg Bool.false_ne_true, if_pos rfl]
      exact step_win (told := [(false, m), (true, n)]) (m := m) (show [m] ≠ [] from List.cons_ne_nil _ _) (List.mem_singleton.mpr rfl) (fun y hy => by rw [List.mem_singleton.mp hy]; exact Int.le_refl _)
    | false =>
      rw [if_neg (fun h => Bool.noConfusion h.1), if_neg Bool.false_ne_true, if_neg Bool.false_ne_true]
      refine step_win (told := [(false, m), (false, n)]) (m := min m n) (show [m, n] ≠ [] from List.cons_ne_nil _ _) ?_ (fun y hy => ?_)
      · rcases Int.le_total m n with h | h
        · rw [Int.min_eq_left h]
          exact List.mem_cons_self
        · rw [Int.min_eq_right h]
          exact List.mem_cons_of_mem _ List.mem_cons_self
      · have hy' : y ∈ [m, n] := hy
        rcases List.mem_cons.mp hy' with e | hy
        · rw [e]
          omega
        · rw [List.mem_singleton.mp hy]
          omega
/-! ### numbers taken from a heap, one to three at a time -/
def abc (i : Nat) : Str := ⟨#[97 + i]⟩
/-- what is left behind the first i ways to take -/
def kids (p : List Str × Int) : Nat → List (List Str × Int)
  | 0 => []
  | i + 1 => kids p i ++ (if (i : Int) + 1 ≤ p.2 then [(p.1 ++ [abc i], p.2 - ((i : Int) + 1))] else [])
def heapF (n : Int) : Nat → List (List Str × Int)
  | 0 => [([], n)]
  | k + 1 => heapF n k ++ (match (heapF n k)[k]? with | some p => kids p 3 | none => [])
theorem heap_next {n : Int} {k : Nat} {p : List Str × Int} (h : (heapF n k)[k]? = some p) : heapF n (k + 1) = heapF n k ++ kids p 3 := by
  show heapF n k ++ _ = _
  rw [h]
theorem heap_stop {n : Int} {k : Nat} (h : (heapF n k).length ≤ k) : ∀ m, heapF n (k + m) = heapF n k
  | 0 => rfl
  | m + 1 => by
    have e := heap_stop h m
    have z : (heapF n (k + m))[k + m]? = none := List.getElem?_eq_none (by rw [e]; omega)
    show heapF n (k + m) ++ (match (heapF n (k + m))[k + m]? with | some p => kids p 3 | none => []) = _
    rw [z, e]
    exact List.append_nil _
theorem heap_len {n : Int} {k : Nat} : ∀ m, (heapF n k).length ≤ (heapF n (k + m)).length
  | 0 => Nat.le_refl _
  | m + 1 => by
    show _ ≤ (heapF n (k + m) ++ _).length
    rw [List.length_append]
    have := heap_len (n := n) (k := k) m
    omega
/-- the rows in their order -/
def heapD : Nat → Int → List Str → List (List Str)
  | 0, _, _ => []
  | f + 1, n, r => r :: ((if 1 ≤ n then heapD f (n - 1) (r ++ [abc 0]) else []) ++ ((if 2 ≤ n then heapD f (n - 2) (r ++ [abc 1]) else []) ++ (if 3 ≤ n then heapD f (n - 3) (r ++ [abc 2]) else [])))
def heapR (n : Nat) : List (List Str) := heapD 8 n []
def heapOk (n : Nat) : Bool :=
  let fs := (heapF n 60).map (·.1)
  let rs := heapR n
  decide (fs.length ≤ 52) && (decide fs.Nodup && (decide (rs.Pairwise bef) && (decide (∀ z ∈ fs, z ∈ rs) && (decide (∀ z ∈ rs, z ∈ fs) && (decide ([] ∈ rs) && (rs.all (fun r => decide (r.dropLast ∈ rs) && (decide (r.length ≤ 60) && r.all fun z => letB z 20 && decide (z.length ≤ 1000))) && (decide (winS rs [] = if n % 4 = 0 then 1 else 0) && decide (((nexts rs []).filter fun l => !(val rs l).1).map lastW = ((List.range 3).filter fun i => decide (i + 1 ≤ n ∧ (n - (i + 1)) % 4 = 0)).map abc))))))))
theorem heap_ok : ∀ n, n < 7 → heapOk n = true := by decide +kernel
end Nm
namespace Nm
open PySem PySem.Spec PyProof.Rows L2 NmD
def heapQ (n : Nat) : List (List Str) := heapD 10 n []
def heapOk2 (n : Nat) : Bool :=
  let fs := (heapF n 200).map (·.1)
  let rs := heapQ n
  decide (fs.length ≤ 180) && (decide fs.Nodup && (decide (rs.Pairwise bef) && (decide (∀ z ∈ fs, z ∈ rs) && (decide (∀ z ∈ rs, z ∈ fs) && (decide ([] ∈ rs) && (rs.all (fun r => decide (r.dropLast ∈ rs) && (decide (r.length ≤ 60) && r.all fun z => letB z 20 && decide (z.length ≤ 1000)))))))))
theorem heap_ok6 : heapOk2 6 = true := by decide +kernel
theorem heap_ok7 : heapOk2 7 = true := by decide +kernel
theorem heap_ok8 : heapOk2 8 = true := by decide +kernel
/-! ### sorted of more than 63 -/
def rSortedA (K : PySem.W.Frag) : List V → Hp → VK → Prop := fun vs H Q => ∃ (a : Addr) (ns : List Int), vs = [V.ref a] ∧ SqL K H a (ns.map V.int) ∧ ns.length ≤ 1000 ∧
  ∀ (ns' : List Int) (p : Addr), ns'.Perm ns → ns'.Pairwise (· ≤ ·) → H p = none → Q (.ref p) (upd H p (.lst (ns'.map V.int)))
def rSortedSA (K : PySem.W.Frag) : List V → Hp → VK → Prop := fun vs H Q => ∃ (a : Addr) (xs : List Str), vs = [V.ref a] ∧ SqL K H a (xs.map V.str) ∧ xs.length ≤ 1000 ∧
  ∀ (ys : List Str) (p : Addr), ys.Perm xs → sortedS ys = true → H p = none → Q (.ref p) (upd H p (.lst (ys.map V.str)))
theorem big1000 {n : Nat} (h : n ≤ 1000) : n ≤ sizeLine := Nat.le_trans h (by decide)
theorem cr_sortedA {X : Cx} : CallR X (.builtin "sorted") (rSortedA X.K) := by
  intro pins s σ H vs us Q I r h
  obtain ⟨a, ns, rfl, hs, few, q⟩ := h
  obtain ⟨its, rv, hl, hz⟩ := I.list hs
  rw [Vals.ref1 r]
  refine PyProof.Rows.sorted_intsAny hl.isList rv.ints (by rw [← rv.length]; exact hz) fun out ns' h1 h2 h3 => ?_
  obtain ⟨ep, he'⟩ := PyProof.Rows.sortedAll_at s.heap its out
  have hlen : (ns'.map V.int).length ≤ sizeLine := by rw [List.length_map, h2.length_eq]; exact big1000 few
  exact ⟨.ref _, upd H (s.heap.objs.size + 1) (.lst (ns'.map V.int)), I.laid (t' := s.toks) (fun _ _ => PyProof.Rows.sortedAll_old) (Nat.le_succ _) ⟨hlen, out.toList, ep, vals_of_ints h1, he'⟩, rfl, q ns' _ h2 h3 (I.hok.fresh (Nat.le_succ _))⟩
theorem cr_sortedSA {X : Cx} : CallR X (.builtin "sorted") (rSortedSA X.K) := by
  intro pins s σ H vs us Q I r h
  obtain ⟨a, xs, rfl, hs, few, q⟩ := h
  obtain ⟨its, rv, hl, hz⟩ := I.list hs
  rw [Vals.ref1 r]
  refine PyProof.Rows.sorted_strsAny hl.isList rv.strs (by rw [← rv.length]; exact hz) fun out ys h1 h2 h3 => ?_
  obtain ⟨ep, he'⟩ := PyProof.Rows.sortedAll_at s.heap its out
  have hlen : (ys.map V.str).length ≤ sizeLine := by rw [List.length_map, h2.length_eq]; exact big1000 few
  exact ⟨.ref _, upd H (s.heap.objs.size + 1) (.lst (ys.map V.str)), I.laid (t' := s.toks) (fun _ _ => PyProof.Rows.sortedAll_old) (Nat.le_succ _) ⟨hlen, out.toList, ep, vals_of_strs h1, he'⟩, rfl, q ys _ h2 h3 (I.hok.fresh (Nat.le_succ _))⟩
end Nm
namespace Nm
open PySem PySem.Spec PyProof.Rows L2 NmD
/-! ### the items of a dict that is keyed by tuples -/
theorem frz_items {X : Cx} {pins : List (Addr × Obj)} {σ : L2.St} {H : Hp} {s : Shared} {d : Addr} {o : Obj} {kvs : List (List Key × V)} (I : Inv X pins σ H s) (h : H d = some (.frz o (.dT kvs))) :
    (d == sysModules) = false ∧ s.heap.get? d = some o ∧ o.ExactDict ∧ ∃ (es : Array DictEntry) (ep : Nat), o.data = .dict es ep ∧ es.size = kvs.length ∧
      ∀ (i : Nat) (k : List Key) (v : V), kvs[i]? = some (k, v) → ∃ (en : DictEntry) (q : Addr), es[i]? = some en ∧ en.key = .ref q ∧ H q = some (.tup (k.map kV)) ∧ RelV v en.val := by
  obtain ⟨hd, z, hs, xs, pr, o', es, ep, ho, hx, hdt, he, _⟩ := I.hok d _ h
  rw [hd] at ho
  cases ho
  refine ⟨hs, hd, hx, es, ep, hdt, ?_, fun i k v e => ?_⟩
  · have l1 : es.size = xs.length := size_of_entries he
    have l2 : kvs.length = xs.length := Paired.length pr
    omega
  · obtain ⟨b, hb, e1, e2, e3⟩ := L2.paired_get pr e
    have q := entry_at he i
    rw [hb] at q
    exact ⟨_, b.2.1, q, rfl, e2, e3⟩
def ItiT (d : Addr) (o : Obj) (kvs : List (List Key × V)) : It :=
  ⟨fun i H => H d = some (.frz o (.dT kvs)) ∧ i < kvs.length, fun i H x H' => ∃ T k v q, kvs[i]? = some (k, v) ∧ x = .ref T ∧ H T = none ∧ H q = some (.tup (k.map kV)) ∧ H' = upd H T (.tup [.ref q, v]), fun i H => H d = some (.frz o (.dT kvs)) ∧ kvs.length ≤ i⟩
theorem turn_itemsT {P : Program} {w : World} {K : PySem.W.Frag} {d : Addr} {o : Obj} {es : Array DictEntry} {ep : Nat} {kvs : List (List Key × V)} {elts : List Expr} {kk : Nat} {tpos : Pos} (it : Addr) (hod : o.data = .dict es ep) :
    Turn P w K (.Tuple elts kk tpos) (ItiT d o kvs) [it] it (fun i h => ∃ ok ov, IsItemIter h it d i kvs.length ep ok ov) where
  mem := by simp
  obj := fun i h st b hb => by
    have e : b = it := by simpa using hb
    subst e
    obtain ⟨ok, ov, e⟩ := st
    exact ⟨_, e, fun v z => nomatch z⟩
  keep := fun i h h' st k => let ⟨ok, ov, e⟩ := st; ⟨ok, ov, k it (by simp) _ e⟩
  item := by
    intro X hP hw hK hc i pins s σ H E I hf st hg
    subst hP hw hK
    obtain ⟨hd, hi⟩ := hg
    obtain ⟨hs, hgd, hx, es', ep', hdt, hsz, ent⟩ := frz_items I hd
    obtain ⟨rfl, rfl⟩ := dict_ep hod hdt
    obtain ⟨⟨k, v⟩, hkv⟩ : ∃ p, kvs[i]? = some p := ⟨kvs[i], List.getElem?_eq_getElem hi⟩
    obtain ⟨en, q, hen, hkey, hq, rv⟩ := ent i k v hkv
    obtain ⟨ok, ov, he⟩ := st
    rw [← hsz] at he
    have hlt : it < s.heap.objs.size := Heap.lt_size he
    have hie : i < es'.size := by omega
    have een : es'[i] = en := Option.some.inj ((Array.getElem?_eq_getElem hie).symm.trans hen)
    refine DT.nextI he ⟨o, hgd, hx, hod⟩ hie fun h' ho hT hz hk => ?_
    rw [een] at ho hT
    refine ⟨_, rfl, wpAny_letOwnedTupleGo_items (s := { s with heap := h' }) ho fun h'' he' sb => ?_⟩
    have hT2 : h''.get? s.heap.objs.size = some { cls := .type "tuple", data := .seq #[en.key, en.val] } := (sb.2 _ (Nat.ne_of_gt hlt)).trans hT
    have rk : RelV (.ref q) en.key := by rw [hkey]; exact rfl
    have new : ObjOk X.prog X.w (upd H s.heap.objs.size (.tup [.ref q, v])) h'' s.heap.objs.size (.tup [.ref q, v]) :=
      ⟨by show 2 ≤ sizeLine; decide, [en.key, en.val], .cons rk (.cons rv .nil), ⟨_, hT2, rfl, _, rfl⟩⟩
    have I1 : Inv X pins σ (upd H s.heap.objs.size (.tup [.ref q, v])) { s with heap := h'' } :=
      I.turnedNew (t' := s.toks) (ch := [it]) (fun b ob hb e => (sb.2 b (by simpa using hb)).trans (hk b ob (by simpa using hb) e)) hf (Nat.le_refl _) new
    refine ⟨.ref s.heap.objs.size, _, I1, rfl, ⟨_, k, v, q, hkv, rfl, I.hok.fresh (Nat.le_refl _), hq, rfl⟩, ⟨en.key, en.val, ?_⟩, fun b hb => ?_⟩
    · rw [← hsz]; exact he'
    · have e : b = it := by simpa using hb
      rw [e, upd_ne (Nat.ne_of_lt hlt)]
      exact (hf it (by simp)).1
  done := by
    intro X hP hw hK hc i pins s σ H E I hf st hg
    subst hP hw hK
    obtain ⟨hd, hi⟩ := hg
    obtain ⟨f0, f1, f2, f3, f4, f5⟩ := hf it (by simp)
    obtain ⟨hs, hgd, hx, es', ep', hdt, hsz, ent⟩ := frz_items I hd
    obtain ⟨rfl, rfl⟩ := dict_ep hod hdt
    obtain ⟨ok, ov, he⟩ := st
    rw [← hsz] at he
    exact DT.endI (I.ok.hd hc) he ⟨o, hgd, hx, hod⟩ (by omega) fun h' eb => ⟨rfl, I.turned (t' := s.toks) (fun b ob hb e => eb b ob hb e) f0 f1 f3 f4 f5⟩
  self := fun A i s Q E st h => let ⟨_, _, e⟩ := st; PySem.W.kcp_self e h
def iItemsT (td : TE) : TI := fun σ H R => td σ H fun x H1 => ∃ d o kvs, x = .ref d ∧ H1 d = some (.frz o (.dT kvs)) ∧ R (ItiT d o kvs) H1
theorem pi_itemsT {X : Cx} {e : Expr} {td : TE} {apos cpos : Pos} {elts : List Expr} {kk : Nat} {tpos : Pos} (he : PE X e td) (hbase : attributeBase e "items" X.env (eval e X.env) = eval e X.env := by rfl) (hline : (apos.endLine == cpos.line) = true := by rfl) :
    PI X (.Tuple elts kk tpos) (.Call (.Attribute e "items" apos) [] [] cpos) (iItemsT td) := by
  refine ⟨fun pins s σ H R I h => ?_⟩
  refine wpAny_Call_method (T := "dict") (id := "dict.items") hbase rfl hline F.plainAttrs_dict F.slot_dict_items F.type_dict_items (thn (he.run pins s σ H _ I h) fun u s1 ⟨x, H1, I1, rx, d, o, kvs, ex, hd, q⟩ => ?_)
  subst ex
  obtain rfl : u = Value.ref d := rx
  obtain ⟨hs, hgd, hx, es, ep, hdt, hsz, ent⟩ := frz_items I1 hd
  have raw : DT.Raw s1.heap d es ep := ⟨o, hgd, hx, hdt⟩
  refine ⟨raw.typeIs, fun b e => by cases e; exact ⟨o, hgd, hx.2.1⟩, ?_⟩
  have I2 : Inv X pins σ H1 { s1 with heap := s1.heap.push { cls := .type "dict_items", data := .fields #[.ref d] } } := I1.kept (t' := s1.toks) fun b ob q => Heap.get?_push_of_some _ q
  have fin : wpAny (model X.prog X.w) X.A (pyIter (.ref s1.heap.objs.size)) (PIE X pins σ (.Tuple elts kk tpos) R) X.xe { s1 with heap := s1.heap.push { cls := .type "dict_items", data := .fields #[.ref d] } } := by
    refine DT.iterI (d := d) (es := es) (ep := ep) ⟨_, Heap.get?_push_size _ rfl, rfl, rfl⟩ (raw.push _) (pi_one (tk := s1.toks) I2 _ (turn_itemsT _ hdt) ⟨.none, .none, ?_⟩ q)
    rw [← hsz]
    exact Heap.get?_push_size _ rfl
  show wpAny _ _ (callWith cpos (.builtin "dict.items") [.ref d] [] []) _ X.xe s1
  exact method_meetsIn F.slot_dict_items F.entry_dict_items rfl (PySem.evalArgs_none ⟨rfl, raw.typeIs, F.args_dict_items_1 _, _, DT.meetsItems hs, raw, fin⟩)
theorem walk_itiT {d : Addr} {o : Obj} {kvs : List (List Key × V)} : Walk (ItiT d o kvs) kvs.length (fun H => H d = some (.frz o (.dT kvs))) (fun i H x H' => ∃ T k v q, kvs[i]? = some (k, v) ∧ x = .ref T ∧ H T = none ∧ H q = some (.tup (k.map kV)) ∧ H' = upd H T (.tup [.ref q, v])) :=
  ⟨fun i _ hi q => ⟨q, hi⟩, fun _ q => ⟨q, Nat.le_refl _⟩, fun i H v H' _ q y => y⟩
/-! ### d.clear() -/
def rClearT : V → List V → Hp → VK → Prop := fun x vs H Q => ∃ (a : Addr) (kvs : List (List Key × V)), x = .ref a ∧ vs = [] ∧ H a = some (.dT kvs) ∧ Q .non (upd H a (.dT []))
theorem mt_clearT {X : Cx} : MtR X "dict.clear" rClearT := by
  intro pins s σ H x vs v us Q I rx rv h
  obtain ⟨a, kvs, ex, ev, e, q⟩ := h
  subst ex
  subst ev
  obtain rfl : v = Value.ref a := rx
  have hus := rv.zero
  subst hus
  obtain ⟨z, hd, xs, rel, o, es, ep, ho, hx, hdt, he, _⟩ := dt_of I.hok e
  have raw : s.heap.DictRaw a es ep := ⟨o, ho, hx, hdt⟩
  have hsz : es.size ≤ sizeLine := by
    have l1 : es.size = xs.length := size_of_entries he
    have l2 : kvs.length = xs.length := Paired.length rel
    omega
  refine call_meetsIn PySem.F.slot_dict_clear raw.typeIs PySem.F.entry_dict_clear (PySem.F.args_dict_clear_1 _) (meets_dict_clear_raw a) ⟨es, ep, raw, hsz, fun h' dd' hs => ?_⟩
  obtain ⟨o', ho', hx', hdt'⟩ := dd'
  have new : ObjOk X.prog X.w (upd H a (.dT [])) h' a (.dT []) := ⟨Nat.zero_le _, hd, [], .nil, o', #[], ep + 1, ho', hx', hdt', rfl, .nil⟩
  exact ⟨.non, _, d_write (t' := s.toks) I (by rw [e]; exact True.intro) hs ⟨o', ho'⟩ new, rfl, q⟩
theorem pe_clearT {X : Cx} {o : Expr} {to : TE} {apos cpos : Pos} (ho : PE X o to) (hbase : attributeBase o "clear" X.env (eval o X.env) = eval o X.env := by rfl) (hline : (apos.endLine == cpos.line) = true := by rfl) : PE X (.Call (.Attribute o "clear" apos) [] [] cpos) (tBM0 X.K "dict" rClearT to) :=
  pe_bm0 PySem.F.plainAttrs_dict PySem.F.slot_dict_clear PySem.F.type_dict_clear mt_clearT ho hbase hline
/-! ### two dicts that are keyed by tuples and hold the same -/
section
variable {prog : Program} {w : World} {Ky : Type} [DecidableEq Ky] {knd : HeapKind prog w Ky} {A : Around} {E : Value → Shared → Prop} {s : Shared}
theorem same_keyed {nm : String} {a b : Addr} {xs ys : List (Ky × Addr × Value)} {Q : Bool → Shared → Prop} (ha : (a == sysModules) = false) (hb : (b == sysModules) = false) (hu : knd.room A)
    (da : s.heap.DictOfH knd a xs) (db : s.heap.DictOfH knd b ys) (hl : xs.length = ys.length) (hits : ∀ x ∈ xs, ∃ (j : Nat) (p : Addr × Value), ys[j]? = some (x.1, p) ∧ SeqAt.EqAt A s x.2.2 p.2 true) (h : Q true s) :
    wpAny (model prog w) A (Builtin.Dict.samePairs nm a b) Q E s := by
  obtain ⟨oa, es, ep, hoa, _, hda, hea, hia, _⟩ := da
  obtain ⟨ob, es', ep', hob, _, hdb, heb, hib, hnb⟩ := db
  have la : es.size = xs.length := size_of_entries hea
  have lb : es'.size = ys.length := size_of_entries heb
  have hsz : es.size = es'.size := by omega
  unfold Builtin.Dict.samePairs Builtin.Dict.showsAll
  rw [if_neg (show ¬ (a == sysModules) = true by rw [ha]; exact Bool.false_ne_true), if_neg (show ¬ (b == sysModules) = true by rw [hb]; exact Bool.false_ne_true)]
  refine wpAny_bind (wpAny_pure (wpAny_bind (wpAny_pure ?_)))
  refine wpAny_bind (wpAny_dictEntries hoa hda ?_)
  dsimp only
  refine wpAny_bind (wpAny_dictEntries hob hdb ?_)
  rw [if_neg (by rw [hsz]; simp)]
  refine wpAny_bind (wpAny_dictEpoch hoa hda ?_)
  refine wpAny_bind ?_
  rw [Std.Legacy.Range.forIn_eq_forIn_range']
  simp only [Std.Legacy.Range.size, Nat.sub_zero, Nat.add_sub_cancel, Nat.div_one]
  refine wpAny_forIn_list _ (fun rest q s' => s' = s ∧ q = (none, ()) ∧ ∃ i, rest = List.range' i (es.size - i) ∧ i ≤ es.size) _ ?_ ?_ _ _ ⟨rfl, rfl, 0, by simp, Nat.zero_le _⟩
  · rintro x rest q s' ⟨rfl, rfl, i, hr, hi⟩
    have hlt : i < es.size := by
      rcases Nat.lt_or_ge i es.size with h | h
      · exact h
      · rw [Nat.sub_eq_zero_of_le h] at hr
        simp at hr
    obtain ⟨rfl, hrest⟩ : x = i ∧ rest = List.range' (i + 1) (es.size - (i + 1)) := by
      have e : es.size - i = (es.size - (i + 1)) + 1 := by omega
      rw [e, List.range'_succ] at hr
      injection hr with h1 h2
      exact ⟨h1, h2⟩
    refine wpAny_bind (wpAny_dictEntries hoa hda ?_)
    rw [Array.getElem?_eq_getElem hlt]
    have hlx : x < xs.length := by omega
    have een : es[x] = entryOfKey knd xs[x] := by
      have q := entry_at hea x
      rw [Array.getElem?_eq_getElem hlt, List.getElem?_eq_getElem hlx] at q
      exact Option.some.inj q
    obtain ⟨j, p, hj, eq⟩ := hits xs[x] (List.getElem_mem hlx)
    have kx := hia xs[x] (List.getElem_mem hlx)
    rw [een]
    show wpAny _ _ (holding [_, _] _ >>= _) _ _ _
    refine wpAny_bind (wpAny_holding (wpAny_bind (wpAny_dictFind_heap hu kx hob hdb heb hib hnb (fun no => absurd hj (no j p)) fun j2 p2 hj2 => ?_)))
    have hjl : j2 < es'.size := by
      have := (List.getElem?_eq_some_iff.mp hj2).1
      omega
    have ep2 : p2 = p := by
      have l1 := (List.getElem?_eq_some_iff.mp hj).1
      have l2 := (List.getElem?_eq_some_iff.mp hj2).1
      have e1 := (List.getElem?_eq_some_iff.mp hj).2
      have e2 := (List.getElem?_eq_some_iff.mp hj2).2
      have ee : j2 = j := by
        have pw := List.pairwise_iff_getElem.mp (show (ys.map (·.1)).Pairwise (· ≠ ·) from hnb)
        have m1 : j < (ys.map (·.1)).length := by rw [List.length_map]; exact l1
        have m2 : j2 < (ys.map (·.1)).length := by rw [List.length_map]; exact l2
        have v1 : (ys.map (·.1))[j] = xs[x].1 := by rw [List.getElem_map, e1]
        have v2 : (ys.map (·.1))[j2] = xs[x].1 := by rw [List.getElem_map, e2]
        rcases Nat.lt_trichotomy j2 j with c | c | c
        · exact absurd (v2.trans v1.symm) (pw j2 j m2 m1 c)
        · exact c
        · exact absurd (v1.trans v2.symm) (pw j j2 m1 m2 c)
      subst ee
      have := e1.symm.trans e2
      injection this with _ h2
      exact h2.symm
    subst ep2
    refine wpAny_bind (wpAny_dictEntries hob hdb ?_)
    rw [Array.getElem?_eq_getElem hjl]
    have een' : es'[j2] = entryOfKey knd (xs[x].1, p2) := by
      have q := entry_at heb j2
      rw [Array.getElem?_eq_getElem hjl, hj2] at q
      exact Option.some.inj q
    rw [een']
    refine wpAny_holding (eq prog w _ _ ?_)
    show wpAny _ _ (if (!true) = true then _ else _) _ _ _
    rw [if_neg (by decide)]
    refine wpAny_bind (wpAny_dictEpoch hoa hda ?_)
    rw [if_neg (by simp)]
    exact wpAny_pure ⟨rfl, rfl, x + 1, hrest, hlt⟩
  · rintro q s' ⟨rfl, rfl, i, hr, hi⟩
    exact wpAny_pure h
theorem ne_keyed {a b : Addr} {xs ys : List (Ky × Addr × Value)} {Q : Value → Shared → Prop} (ha : (a == sysModules) = false) (hb : (b == sysModules) = false) (hk : knd.room A.in1)
    (da : s.heap.DictOfH knd a xs) (db : s.heap.DictOfH knd b ys) (hu : A.units < cLine) (hl : xs.length = ys.length) (hits : ∀ x ∈ xs, ∃ (j : Nat) (p : Addr × Value), ys[j]? = some (x.1, p) ∧ SeqAt.EqAt A.in1 s x.2.2 p.2 true) (h : Q (.bool false) s) :
    wpAny (model prog w) A (compareOp .NotEq (.ref a) (.ref b)) Q E s := by
  have ta : s.TypeIs (.ref a) "dict" := let ⟨o, _, _, ho, hx, _⟩ := da; ⟨o, ho, hx.1⟩
  have tb : s.TypeIs (.ref b) "dict" := let ⟨o, _, _, ho, hx, _⟩ := db; ⟨o, ho, hx.1⟩
  refine wpAny_richCompare_same_room (op := .NotEq) ta tb PySem.F.slot_dict_ne (wpAny_call_entry PySem.F.slot_dict_ne ta PySem.F.entry_dict_ne ?_ (PySem.F.args_dict_ne_2 _ _)) hu
  show wpAny _ _ (Builtin.Dict.dictSlotArgs "__ne__" ⟨[.ref a, .ref b], []⟩ >>= _) _ _ s
  refine wpAny_bind ?_
  unfold Builtin.Dict.dictSlotArgs
  refine wpAny_bind (wpAny_notOrdered_dict ta ?_)
  show wpAny _ _ (pure (Value.ref a, Value.ref b)) _ _ s
  refine wpAny_pure ?_
  refine wpAny_bind (wpAny_isInstance (T := "dict") tb PySem.F.sub_dict_dict ?_)
  simp only [Bool.not_true, Bool.false_eq_true, if_false]
  refine wpAny_bind (wpAny_pure (wpAny_bind (wpAny_pure ?_)))
  refine wpAny_bind (same_keyed ha hb hk da db hl hits ?_)
  refine wpAny_pure ⟨_, rfl, ?_, ?_⟩
  · exact fun x => nomatch x
  · simpa using h
end
def rNeT : R2 := fun x y H Q => ∃ a b ks ls, x = .ref a ∧ y = .ref b ∧ H a = some (.dT ks) ∧ H b = some (.dT ls) ∧ ks.length = ls.length ∧ (∀ p ∈ ks, valV ls p.1 = some p.2 ∧ flatB p.2 = true) ∧ Q (.bl false) H
theorem val_at {κ : Type} [DecidableEq κ] : ∀ {kvs : List (κ × V)} {k : κ} {v : V}, valV kvs k = some v → ∃ j : Nat, kvs[j]? = some (k, v)
  | [], _, _, h => by cases h
  | (k', v') :: kvs, k, v, h => by
    by_cases c : k' = k
    · rw [valV_pos (show (k', v').1 = k from c)] at h
      cases h
      exact ⟨0, by rw [c]; rfl⟩
    · rw [valV_neg (show ¬ (k', v').1 = k from c)] at h
      obtain ⟨j, hj⟩ := val_at h
      exact ⟨j + 1, hj⟩
theorem op_neT {X : Cx} (hu : X.A.units + 1 < cLine) : OpR X (compareOp .NotEq) rNeT := by
  intro pins s σ H x y v u Q I rx ry h
  obtain ⟨a, b, ks, ls, rfl, rfl, ea, eb, hlen, hp, q⟩ := h
  obtain rfl : v = Value.ref a := rx
  obtain rfl : u = Value.ref b := ry
  obtain ⟨_, ya, xs, ra, da⟩ := dt_of I.hok ea
  obtain ⟨_, yb, zs, rb, db⟩ := dt_of I.hok eb
  have l1 : ks.length = xs.length := Paired.length ra
  have l2 : ls.length = zs.length := Paired.length rb
  refine ne_keyed ya yb (tupleKind_room_in1 hu) da db (Nat.lt_of_succ_lt hu) (by omega) (fun x hx => ?_) (fin_bl I q rfl)
  obtain ⟨i, hi⟩ := List.getElem?_of_mem hx
  have lt : i < ks.length := by
    have := (List.getElem?_eq_some_iff.mp hi).1
    omega
  have hk : ks[i]? = some ks[i] := List.getElem?_eq_getElem lt
  obtain ⟨x', hx', e1, _, r1⟩ := L2.paired_get ra hk
  have ex : x' = x := Option.some.inj (hx'.symm.trans hi)
  subst ex
  obtain ⟨e, f⟩ := hp _ (List.mem_of_getElem? hk)
  obtain ⟨j, hj⟩ := val_at e
  obtain ⟨z, hz, e2, _, r2⟩ := L2.paired_get rb hj
  refine ⟨j, z.2, ?_, eqAt_same r1 r2 f⟩
  rw [hz, ← e1]
  exact congrArg some (Prod.ext e2.symm rfl)
/-- an empty dict that was to be keyed by tuples is {} -/
def rEqE : R2 := fun x y H Q => ∃ a b, x = .ref a ∧ y = .ref b ∧ H a = some (.dT []) ∧ H b = some (.dK []) ∧ Q (.bl true) H
theorem op_eqE {X : Cx} (hu : X.A.units < cLine) : OpR X (compareOp .Eq) rEqE := by
  intro pins s σ H x y v u Q I rx ry h
  obtain ⟨a, b, rfl, rfl, ea, eb, q⟩ := h
  obtain rfl : v = Value.ref a := rx
  obtain rfl : u = Value.ref b := ry
  obtain ⟨_, ya, xs, ra, o, es, ep, ho, hx, hdt, he, _⟩ := dt_of I.hok ea
  obtain ⟨_, yb, vb, rb, db⟩ := (show ObjOk X.prog X.w H s.heap b (.dK []) from I.hok b _ eb)
  cases ra
  have e0 : es.toList = [] := he
  have ea0 : es = #[] := Array.toList_eq_nil_iff.mp e0
  subst ea0
  have da : s.heap.DictOf (mixKind X.prog X.w) a [] := ⟨o, #[], ep, ho, hx, hdt, fun e hm => absurd hm (by simp), .nil, .nil⟩
  have hb : vb = [] := by
    cases rb
    rfl
  subst hb
  exact PySem.W.keq_eq (knd := mixKind X.prog X.w) (r := true) ya yb da db hu (fun _ => .nil) (fin_bl I q rfl)
end Nm
namespace Nm
open PySem PySem.Spec PyProof.Rows L2
variable {X : Cx}
/-- xs[i] of a list or a tuple -/
def rIxA (K : PySem.W.Frag) : R2 := fun x y H Q => rIxL K x y H Q ∨ rIxT K x y H Q
theorem ix_any : IxR X (rIxA X.K) := by
  intro value slice pins s σ H x y v u Q I rx ry h hs
  rcases h with h | h
  · exact ix_list value slice pins s σ H x y v u Q I rx ry h hs
  · exact ix_tup value slice pins s σ H x y v u Q I rx ry h hs
end Nm
namespace K07
open PySem L2
def top (i : Nat) : Stmt := PySem.Challenge.pw_untoldgames_k07_whole_plans_win.main.body.getD i (.Pass ⟨0, 0, 0, 0⟩)
abbrev s_is_integer : Stmt := top 7
abbrev s_is_within : Stmt := top 8
abbrev s_is_side : Stmt := top 9
abbrev s_is_lettered : Stmt := top 10
abbrev s_is_word : Stmt := top 11
abbrev s_is_words : Stmt := top 12
abbrev s__law_tape : Stmt := top 33
abbrev s__law_pick : Stmt := top 34
abbrev s_is_row : Stmt := top 13
abbrev s_is_ascending : Stmt := top 14
abbrev s_is_game : Stmt := top 18
abbrev s_check_game : Stmt := top 19
abbrev s_check_place : Stmt := top 20
abbrev s_let_words : Stmt := top 21
abbrev s_behind : Stmt := top 22
abbrev s__law_words : Stmt := top 37
abbrev s_mover : Stmt := top 17
abbrev s_next_rows : Stmt := top 24
abbrev s_solved : Stmt := top 25
abbrev s_winner : Stmt := top 26
abbrev s__law_some : Stmt := top 40
abbrev s__law_word : Stmt := top 35
abbrev s__law_game : Stmt := top 36
abbrev s_moves_left : Stmt := top 27
abbrev s__law_results : Stmt := top 38
abbrev s_check_side : Stmt := top 28
abbrev s__law_heap : Stmt := top 42
abbrev s_plan : Stmt := top 29
abbrev s_is_plan : Stmt := top 30
abbrev s_plan_fault : Stmt := top 31
abbrev s__law_rows_by : Stmt := top 39
abbrev s__law_behind_rows : Stmt := top 41
abbrev s_law : Stmt := top 43
theorem sc_is_integer : FnScope ["thing"] ["thing"] (defScope s_is_integer) := ⟨rfl, rfl, rfl, by decide +kernel, rfl, by decide +kernel, by decide +kernel⟩
theorem sc_is_within : FnScope ["thing", "low", "high"] ["thing", "low", "high"] (defScope s_is_within) := ⟨rfl, rfl, rfl, by decide +kernel, rfl, by decide +kernel, by decide +kernel⟩
theorem sc_is_side : FnScope ["thing"] ["thing"] (defScope s_is_side) := ⟨rfl, rfl, rfl, by decide +kernel, rfl, by decide +kernel, by decide +kernel⟩
theorem sc_is_lettered : FnScope ["thing", "most", "sign"] ["thing", "most"] (defScope s_is_lettered) := ⟨rfl, rfl, rfl, by decide +kernel, rfl, by decide +kernel, by decide +kernel⟩
theorem sc_is_word : FnScope ["thing"] ["thing"] (defScope s_is_word) := ⟨rfl, rfl, rfl, by decide +kernel, rfl, by decide +kernel, by decide +kernel⟩
theorem sc_is_words : FnScope ["thing", "most", "word"] ["thing", "most"] (defScope s_is_words) := ⟨rfl, rfl, rfl, by decide +kernel, rfl, by decide +kernel, by decide +kernel⟩
theorem sc__law_tape : FnScope ["script"] ["script"] (defScope s__law_tape) := ⟨rfl, rfl, rfl, by decide +kernel, rfl, by decide +kernel, by decide +kernel⟩
theorem sc__law_pick : FnScope ["tape", "size", "digit", "cell", "mixed"] ["tape", "size"] (defScope s__law_pick) := ⟨rfl, rfl, rfl, by decide +kernel, rfl, by decide +kernel, by decide +kernel⟩
theorem sc_is_row : FnScope ["thing"] ["thing"] (defScope s_is_row) := ⟨rfl, rfl, rfl, by decide +kernel, rfl, by decide +kernel, by decide +kernel⟩
theorem sc_is_ascending : FnScope ["things", "one", "other"] ["things"] (defScope s_is_ascending) := ⟨rfl, rfl, rfl, by decide +kernel, rfl, by decide +kernel, by decide +kernel⟩
theorem sc_is_game : FnScope ["thing", "rows", "row"] ["thing"] (defScope s_is_game) := ⟨rfl, rfl, rfl, by decide +kernel, rfl, by decide +kernel, by decide +kernel⟩
theorem sc_check_game : FnScope ["game"] ["game"] (defScope s_check_game) := ⟨rfl, rfl, rfl, by decide +kernel, rfl, by decide +kernel, by decide +kernel⟩
theorem sc_check_place : FnScope ["game", "row"] ["game", "row"] (defScope s_check_place) := ⟨rfl, rfl, rfl, by decide +kernel, rfl, by decide +kernel, by decide +kernel⟩
theorem sc_let_words : FnScope ["game", "row", "longer"] ["game", "row"] (defScope s_let_words) := ⟨rfl, rfl, rfl, by decide +kernel, rfl, by decide +kernel, by decide +kernel⟩
theorem sc_behind : FnScope ["game", "row", "longer"] ["game", "row"] (defScope s_behind) := ⟨rfl, rfl, rfl, by decide +kernel, rfl, by decide +kernel, by decide +kernel⟩
theorem sc__law_words : FnScope ["game", "row", "other"] ["game", "row"] (defScope s__law_words) := ⟨rfl, rfl, rfl, by decide +kernel, rfl, by decide +kernel, by decide +kernel⟩
theorem sc_mover : FnScope ["row"] ["row"] (defScope s_mover) := ⟨rfl, rfl, rfl, by decide +kernel, rfl, by decide +kernel, by decide +kernel⟩
theorem sc_next_rows : FnScope ["game", "found", "row"] ["game"] (defScope s_next_rows) := ⟨rfl, rfl, rfl, by decide +kernel, rfl, by decide +kernel, by decide +kernel⟩
theorem sc_solved : FnScope ["game", "after", "verdicts", "row", "told", "winning", "longer", "other_wins", "left", "_"] ["game"] (defScope s_solved) := ⟨rfl, rfl, rfl, by decide +kernel, rfl, by decide +kernel, by decide +kernel⟩
theorem sc_winner : FnScope ["game", "row", "side"] ["game", "row"] (defScope s_winner) := ⟨rfl, rfl, rfl, by decide +kernel, rfl, by decide +kernel, by decide +kernel⟩
theorem sc__law_some : FnScope ["tape", "things"] ["tape", "things"] (defScope s__law_some) := ⟨rfl, rfl, rfl, by decide +kernel, rfl, by decide +kernel, by decide +kernel⟩
theorem sc__law_word : FnScope ["tape", "few"] ["tape"] (defScope s__law_word) := ⟨rfl, rfl, rfl, by decide +kernel, rfl, by decide +kernel, by decide +kernel⟩
theorem sc__law_game : FnScope ["tape", "most", "rows", "turn", "row", "longer"] ["tape", "most"] (defScope s__law_game) := ⟨rfl, rfl, rfl, by decide +kernel, rfl, by decide +kernel, by decide +kernel⟩
theorem sc_moves_left : FnScope ["game", "row"] ["game", "row"] (defScope s_moves_left) := ⟨rfl, rfl, rfl, by decide +kernel, rfl, by decide +kernel, by decide +kernel⟩
theorem sc__law_results : FnScope ["game", "found", "size", "row", "side", "later", "good", "one", "word", "told"] ["game"] (defScope s__law_results) := ⟨rfl, rfl, rfl, by decide +kernel, rfl, by decide +kernel, by decide +kernel⟩
theorem sc_check_side : FnScope ["game", "side"] ["game", "side"] (defScope s_check_side) := ⟨rfl, rfl, rfl, by decide +kernel, rfl, by decide +kernel, by decide +kernel⟩
theorem sc__law_heap : FnScope ["number", "found", "at", "row", "left", "take"] ["number"] (defScope s__law_heap) := ⟨rfl, rfl, rfl, by decide +kernel, rfl, by decide +kernel, by decide +kernel⟩
theorem sc_plan : FnScope ["game", "side", "verdicts", "after", "words", "waiting", "row", "best", "longer"] ["game", "side"] (defScope s_plan) := ⟨rfl, rfl, rfl, by decide +kernel, rfl, by decide +kernel, by decide +kernel⟩
theorem sc_is_plan : FnScope ["game", "side", "thing", "rows", "row", "word"] ["game", "side", "thing"] (defScope s_is_plan) := ⟨rfl, rfl, rfl, by decide +kernel, rfl, by decide +kernel, by decide +kernel⟩
theorem sc_plan_fault : FnScope ["game", "side", "thing", "after", "lacking", "waiting", "row"] ["game", "side", "thing"] (defScope s_plan_fault) := ⟨rfl, rfl, rfl, by decide +kernel, rfl, by decide +kernel, by decide +kernel⟩
theorem sc__law_rows_by : FnScope ["game", "side", "told", "keys", "lacking", "ends", "waiting", "row", "words", "word"] ["game", "side", "told"] (defScope s__law_rows_by) := ⟨rfl, rfl, rfl, by decide +kernel, rfl, by decide +kernel, by decide +kernel⟩
theorem sc__law_behind_rows : FnScope ["tape", "game", "turn", "row", "rest", "side", "told", "results", "line", "here", "slow", "step", "words", "word"] ["tape"] (defScope s__law_behind_rows) := ⟨rfl, rfl, rfl, by decide +kernel, rfl, by decide +kernel, by decide +kernel⟩
theorem sc_law : FnScope ["script", "tape", "turn", "game", "results", "side", "told", "keys", "lacking", "ends", "row"] ["script"] (defScope s_law) := ⟨rfl, rfl, rfl, by decide +kernel, rfl, by decide +kernel, by decide +kernel⟩
structure Txt (K : PySem.W.Frag) (mg : Str → Option Value) : Prop where
  d_is_integer : Nm.Top K mg "is_integer" s_is_integer
  d_is_within : Nm.Top K mg "is_within" s_is_within
  d_is_side : Nm.Top K mg "is_side" s_is_side
  d_is_lettered : Nm.Top K mg "is_lettered" s_is_lettered
  d_is_word : Nm.Top K mg "is_word" s_is_word
  d_is_words : Nm.Top K mg "is_words" s_is_words
  d__law_tape : Nm.Top K mg "_law_tape" s__law_tape
  d__law_pick : Nm.Top K mg "_law_pick" s__law_pick
  d_is_row : Nm.Top K mg "is_row" s_is_row
  d_is_ascending : Nm.Top K mg "is_ascending" s_is_ascending
  d_is_game : Nm.Top K mg "is_game" s_is_game
  d_check_game : Nm.Top K mg "check_game" s_check_game
  d_check_place : Nm.Top K mg "check_place" s_check_place
  d_let_words : Nm.Top K mg "let_words" s_let_words
  d_behind : Nm.Top K mg "behind" s_behind
  d__law_words : Nm.Top K mg "_law_words" s__law_words
  d_mover : Nm.Top K mg "mover" s_mover
  d_next_rows : Nm.Top K mg "next_rows" s_next_rows
  d_solved : Nm.Top K mg "solved" s_solved
  d_winner : Nm.Top K mg "winner" s_winner
  d__law_some : Nm.Top K mg "_law_some" s__law_some
  d__law_word : Nm.Top K mg "_law_word" s__law_word
  d__law_game : Nm.Top K mg "_law_game" s__law_game
  d_moves_left : Nm.Top K mg "moves_left" s_moves_left
  d__law_results : Nm.Top K mg "_law_results" s__law_results
  d_check_side : Nm.Top K mg "check_side" s_check_side
  d__law_heap : Nm.Top K mg "_law_heap" s__law_heap
  d_plan : Nm.Top K mg "plan" s_plan
  d_is_plan : Nm.Top K mg "is_plan" s_is_plan
  d_plan_fault : Nm.Top K mg "plan_fault" s_plan_fault
  d__law_rows_by : Nm.Top K mg "_law_rows_by" s__law_rows_by
  d__law_behind_rows : Nm.Top K mg "_law_behind_rows" s__law_behind_rows
  d_law : Nm.Top K mg "law" s_law
  m_all : mg "all" = none
  m_bool : mg "bool" = none
  m_dict : mg "dict" = none
  m_int : mg "int" = none
  m_isinstance : mg "isinstance" = none
  m_len : mg "len" = none
  m_list : mg "list" = none
  m_max : mg "max" = none
  m_min : mg "min" = none
  m_range : mg "range" = none
  m_sorted : mg "sorted" = none
  m_str : mg "str" = none
  m_tuple : mg "tuple" = none
  m_zip : mg "zip" = none
  g_MOST_ROWS : ∃ u, mg "MOST_ROWS" = some u ∧ RelV (.int 600) u
  g_MOST_WORDS : ∃ u, mg "MOST_WORDS" = some u ∧ RelV (.int 60) u
end K07
namespace K07
open PySem L2 Nm
open C8 (Cal Mak pe_c pe_mk pe_gc)
open RZ (ItzT pi_zipA)
section
variable {P : Program} {w : World} {K : PySem.W.Frag} {mg : Str → Option Value} {base : Heap}
def sp_is_integer (K : PySem.W.Frag) : Sp := fun vs H Q _ => ∃ (x : V), vs = [x] ∧ TyI K H x ∧ Q (.bl (isInt x)) H
theorem c_is_integer (T : Txt K mg) : Cal P w K mg base 1 "is_integer" (sp_is_integer K) [] := by
  have sc := sc_is_integer
  refine cal_of T.d_is_integer sc (fun _ _ _ _ _ _ us hl => match us, hl with | [_], _ => rfl) (fun vs H Q E h => ?_) (fun f cdv A outer s H vs Q E hr h => ?_)
  · obtain ⟨x, rfl, _⟩ := h
    rfl
  · obtain ⟨x, rfl, h⟩ := h
    refine ⟨_, (pss_one (ps_ret (pe_and (pe_callB call_isi rfl T.m_isinstance (by decide +kernel) (pa_cons (pv 0) (pa_cons (pe_bltn (v := .ty "int") (u := .type "int") rfl T.m_int (by decide +kernel) rfl) pa_nil))) (pe_one (pe_not (pe_callB call_isi rfl T.m_isinstance (by decide +kernel) (pa_cons (pv 0) (pa_cons (pe_bltn (v := .ty "bool") (u := .type "bool") rfl T.m_bool (by decide +kernel) rfl) pa_nil)))))))), ?_⟩
    obtain ⟨⟨b, c, ⟨t, h1, h2⟩, ⟨u, h3, h4⟩, e⟩, q⟩ := h
    refine ⟨_, rfl, _, _, t, _, b, rfl, .ty _, h1, h2, b, rfl, ?_⟩
    cases b with
    | false =>
      refine iteF ?_
      rw [← e] at q
      exact q
    | true =>
      refine iteT ⟨_, rfl, _, _, u, _, c, rfl, .ty _, h3, h4, c, rfl, ?_⟩
      rw [← e] at q
      exact q
end
end K07
namespace K07
open PySem L2 Nm
open C8 (Cal Mak pe_c pe_mk pe_gc)
open RZ (ItzT pi_zipA)
section
variable {P : Program} {w : World} {K : PySem.W.Frag} {mg : Str → Option Value} {base : Heap}
def sp_is_within (K : PySem.W.Frag) : Sp := fun vs H Q _ => ∃ (x : V) (lo hi : Int), vs = [x, .int lo, .int hi] ∧ TyI K H x ∧ Q (.bl (within x lo hi)) H
theorem c_is_within (T : Txt K mg) : Cal P w K mg base 2 "is_within" (sp_is_within K) [] := by
  have C_is_integer := c_is_integer (P := P) (w := w) (base := base) T
  have sc := sc_is_within
  refine cal_of T.d_is_within sc (fun _ _ _ _ _ _ us hl => match us, hl with | [_, _, _], _ => rfl) (fun vs H Q E h => ?_) (fun f cdv A outer s H vs Q E hr h => ?_)
  · obtain ⟨x, lo, hi, rfl, _⟩ := h
    rfl
  · obtain ⟨x, lo, hi, rfl, h⟩ := h
    refine ⟨_, (pss_one (ps_ret (pe_and (pe_c C_is_integer hr (by omega) rfl (pa_cons (pv 0) pa_nil)) (pe_one (pe_chain op_le op_le (pv 1) (pv 0) (pv 2)))))), ?_⟩
    obtain ⟨ty, q⟩ := h
    refine ⟨_, rfl, x, rfl, ty, isInt x, rfl, ?_⟩
    cases x with
    | int n =>
      refine iteT ⟨_, rfl, _, rfl, lo, n, rfl, rfl, decide (lo ≤ n), rfl, ?_⟩
      by_cases c : lo ≤ n
      · rw [if_pos (decide_eq_true c)]
        refine ⟨_, rfl, n, hi, rfl, rfl, ?_⟩
        have e : within (.int n) lo hi = decide (n ≤ hi) := by
          show (decide (lo ≤ n) && decide (n ≤ hi)) = _
          rw [decide_eq_true c, Bool.true_and]
        rw [e] at q
        exact q
      · rw [if_neg (by rw [decide_eq_false c]; exact Bool.false_ne_true)]
        have e : within (.int n) lo hi = false := by
          show (decide (lo ≤ n) && decide (n ≤ hi)) = _
          rw [decide_eq_false c, Bool.false_and]
        rw [e] at q
        exact q
    | _ => exact iteF q
end
end K07
namespace K07
open PySem L2 Nm
open C8 (Cal Mak pe_c pe_mk pe_gc)
open RZ (ItzT pi_zipA)
section
variable {P : Program} {w : World} {K : PySem.W.Frag} {mg : Str → Option Value} {base : Heap}
def sp_is_side (K : PySem.W.Frag) : Sp := fun vs H Q _ => ∃ (x : V), vs = [x] ∧ TyI K H x ∧ Q (.bl (within x 0 1)) H
theorem c_is_side (T : Txt K mg) : Cal P w K mg base 3 "is_side" (sp_is_side K) [] := by
  have C_is_within := c_is_within (P := P) (w := w) (base := base) T
  have sc := sc_is_side
  refine cal_of T.d_is_side sc (fun _ _ _ _ _ _ us hl => match us, hl with | [_], _ => rfl) (fun vs H Q E h => ?_) (fun f cdv A outer s H vs Q E hr h => ?_)
  · obtain ⟨x, rfl, _⟩ := h
    rfl
  · obtain ⟨x, rfl, h⟩ := h
    refine ⟨_, (pss_one (ps_ret (pe_c C_is_within hr (by omega) rfl (pa_cons (pv 0) (pa_cons pe_int (pa_cons pe_int pa_nil)))))), ?_⟩
    obtain ⟨ty, q⟩ := h
    exact ⟨_, rfl, x, 0, 1, rfl, ty, q⟩
end
end K07
namespace K07
open PySem L2 Nm
open C8 (Cal Mak pe_c pe_mk pe_gc)
open RZ (ItzT pi_zipA)
section
variable {P : Program} {w : World} {K : PySem.W.Frag} {mg : Str → Option Value} {base : Heap}
def sp_is_lettered (K : PySem.W.Frag) : Sp := fun vs H Q _ => ∃ (z : Str) (most : Int), vs = [.str z, .int most] ∧ z.length ≤ 1000 ∧ ∀ H', Same H H' → Q (.bl (letB z most)) H'
theorem c_is_lettered (T : Txt K mg) : Cal P w K mg base 1 "is_lettered" (sp_is_lettered K) [] := by
  have sc := sc_is_lettered
  refine cal_of T.d_is_lettered sc (fun _ _ _ _ _ _ us hl => match us, hl with | [_, _], _ => rfl) (fun vs H Q E h => ?_) (fun f cdv A outer s H vs Q E hr h => ?_)
  · obtain ⟨z, most, rfl, _⟩ := h
    rfl
  · obtain ⟨z, most, rfl, h⟩ := h
    refine ⟨_, (pss_cons (ps_if (PW.pt (pw_or (pt_not (pt_val (pe_callB call_isi rfl T.m_isinstance (by decide +kernel) (pa_cons (pv 0) (pa_cons (pe_bltn (v := .ty "str") (u := .type "str") rfl T.m_str (by decide +kernel) rfl) pa_nil))))) (pw_or1 (pt_not (pt_chain op_le op_le pe_int (pe_callB call_len_str rfl T.m_len (by decide +kernel) (pa_cons (pv 0) pa_nil)) (pv 1)))))) (pss_one (ps_ret pe_bl)) pss_nil)
  (pss_one (ps_ret (pe_callB (cr_all rfl) rfl T.m_all (by decide +kernel) (pa_cons (pe_lc (own := [("sign", 2)]) (g := gName 2) rfl sc.nd (pi_str (pv 0)) (blkOk_by (own := [("sign", 2)]) (N := ["thing", "most", "sign"]) (sc := defScope s_is_lettered) (by decide +kernel)) (fun _ _ _ _ _ => (pg_name (i := 2) sc.nd rfl (Or.inl rfl))) (fun _ _ _ _ _ => pts_nil) (fun _ _ _ _ _ => (pe_chain op_le_str op_le_str pe_str (pv 2) pe_str))) pa_nil))))), ?_⟩
    obtain ⟨hz, q⟩ := h
    obtain ⟨t, h1, h2⟩ := tyc_str (K := K) (H := H) z
    have fit : z.length ≤ sizeLine := Nat.le_trans hz (by decide)
    refine ⟨_, rfl, _, _, t, _, true, rfl, .ty _, h1, h2, true, rfl, ?_⟩
    refine iteF ?_
    refine ⟨_, rfl, z, rfl, fit, 1, (z.length : Int), rfl, rfl, decide (1 ≤ (z.length : Int)), rfl, ?_⟩
    by_cases c1 : 1 ≤ (z.length : Int)
    · rw [if_pos (decide_eq_true c1)]
      refine ⟨_, rfl, (z.length : Int), most, rfl, rfl, decide ((z.length : Int) ≤ most), rfl, ?_⟩
      by_cases c2 : (z.length : Int) ≤ most
      · rw [decide_eq_true c2]
        refine iteF ?_
        refine ⟨_, rfl, z, rfl, fun D hD => ?_⟩
        refine lc_it walk_str (fun i H1 => H1 D = some (.lst ((z.cps.toList.take i).map fun c => V.bl (decide (97 ≤ c) && decide (c ≤ 122)))) ∧ Same H H1) ⟨upd_same, same_new hD⟩ (fun _ _ _ _ => trivial) ?_ ?_
        · rintro i x H0 H1 hi ⟨hl, g⟩ ⟨rfl, c, hc, rfl⟩
          refine ⟨rfl, ?_⟩
          have hc' : z.cps.toList[i]? = some c := by rw [Array.getElem?_toList]; exact hc
          have tk : (z.cps.toList.take (i + 1)).map (fun c => V.bl (decide (97 ≤ c) && decide (c ≤ 122))) = (z.cps.toList.take i).map (fun c => V.bl (decide (97 ≤ c) && decide (c ≤ 122))) ++ [V.bl (decide (97 ≤ c) && decide (c ≤ 122))] := by
            rw [List.take_add_one, hc', List.map_append]
            rfl
          have small : ((z.cps.toList.take i).map fun c => V.bl (decide (97 ≤ c) && decide (c ≤ 122))).length < sizeLine := by
            rw [List.length_map, List.length_take]
            have a : z.cps.toList.length = z.length := by rw [Array.length_toList]; rfl
            have b : (1000 : Nat) < sizeLine := by decide
            omega
          have fin : ∀ v : Bool, v = (decide (97 ≤ c) && decide (c ≤ 122)) → ∃ acc, H1 D = some (.lst acc) ∧ acc.length < sizeLine ∧
              (upd H1 D (.lst (acc ++ [V.bl v])) D = some (.lst ((z.cps.toList.take (i + 1)).map fun c => V.bl (decide (97 ≤ c) && decide (c ≤ 122)))) ∧ Same H (upd H1 D (.lst (acc ++ [V.bl v])))) := fun v e => by
            refine ⟨_, hl, small, ?_, same_mut g hD⟩
            rw [upd_same, tk, e]
          refine ⟨_, rfl, _, _, rfl, rfl, !decide (([c] : List Nat) < [97]), rfl, ?_⟩
          rw [sign_lt]
          by_cases d : 97 ≤ c
          · rw [if_pos (by rw [decide_eq_false (by omega)]; rfl)]
            refine ⟨_, _, rfl, rfl, ?_⟩
            refine fin (!decide (([122] : List Nat) < [c])) ?_
            rw [sign_lt, decide_eq_true d, Bool.true_and]
            by_cases d2 : c ≤ 122
            · rw [decide_eq_true d2, decide_eq_false (by omega)]
              rfl
            · rw [decide_eq_false d2, decide_eq_true (by omega)]
              rfl
          · rw [if_neg (by rw [decide_eq_true (by omega)]; exact Bool.false_ne_true)]
            refine fin false ?_
            rw [decide_eq_false d]
            rfl
        · rintro H1 ⟨hl, g⟩
          have hn : z.cps.toList.take z.cps.size = z.cps.toList := List.take_of_length_le (by rw [Array.length_toList]; exact Nat.le_refl _)
          rw [hn] at hl
          refine ⟨D, z.cps.toList.map (fun c => decide (97 ≤ c) && decide (c ≤ 122)), rfl, SqL.of (by rw [hl, List.map_map]; rfl), ?_⟩
          have e : letB z most = ((z.cps.toList.map (fun c => decide (97 ≤ c) && decide (c ≤ 122))).all id) := by
            unfold letB
            rw [decide_eq_true c1, decide_eq_true c2, List.all_map]
            rfl
          have q' := q H1 g
          rw [e] at q'
          exact q'
      · rw [decide_eq_false c2]
        refine iteT ?_
        have e : letB z most = false := by unfold letB; rw [decide_eq_false c2, Bool.and_false, Bool.false_and]
        have q' := q H (Same.refl H)
        rw [e] at q'
        exact q'
    · rw [if_neg (by rw [decide_eq_false c1]; exact Bool.false_ne_true)]
      refine ⟨false, rfl, iteT ?_⟩
      have e : letB z most = false := by unfold letB; rw [decide_eq_false c1, Bool.false_and, Bool.false_and]
      have q' := q H (Same.refl H)
      rw [e] at q'
      exact q'
end
end K07
namespace K07
open PySem L2 Nm
open C8 (Cal Mak pe_c pe_mk pe_gc)
open RZ (ItzT pi_zipA)
section
variable {P : Program} {w : World} {K : PySem.W.Frag} {mg : Str → Option Value} {base : Heap}
def sp_is_word (K : PySem.W.Frag) : Sp := fun vs H Q _ => ∃ (z : Str), vs = [.str z] ∧ z.length ≤ 1000 ∧ ∀ H', Same H H' → Q (.bl (letB z 20)) H'
theorem c_is_word (T : Txt K mg) : Cal P w K mg base 2 "is_word" (sp_is_word K) [] := by
  have C_is_lettered := c_is_lettered (P := P) (w := w) (base := base) T
  have sc := sc_is_word
  refine cal_of T.d_is_word sc (fun _ _ _ _ _ _ us hl => match us, hl with | [_], _ => rfl) (fun vs H Q E h => ?_) (fun f cdv A outer s H vs Q E hr h => ?_)
  · obtain ⟨z, rfl, _⟩ := h
    rfl
  · obtain ⟨z, rfl, h⟩ := h
    refine ⟨_, (pss_one (ps_ret (pe_c C_is_lettered hr (by omega) rfl (pa_cons (pv 0) (pa_cons pe_int pa_nil))))), ?_⟩
    exact ⟨_, rfl, z, 20, rfl, h.1, h.2⟩
end
end K07
namespace K07
open PySem L2 Nm
open C8 (Cal Mak pe_c pe_mk pe_gc)
open RZ (ItzT pi_zipA)
section
variable {P : Program} {w : World} {K : PySem.W.Frag} {mg : Str → Option Value} {base : Heap}
def sp_is_words (K : PySem.W.Frag) : Sp := fun vs H Q _ => ∃ (a : Addr) (zs : List Str) (most : Int), vs = [.ref a, .int most] ∧ H a = some (.tup (zs.map V.str)) ∧ zs.length ≤ 1000 ∧ (∀ z ∈ zs, z.length ≤ 1000) ∧ ∀ H', Same H H' → Q (.bl (rowB zs most)) H'
theorem c_is_words (T : Txt K mg) : Cal P w K mg base 3 "is_words" (sp_is_words K) [] := by
  have C_is_word := c_is_word (P := P) (w := w) (base := base) T
  have sc := sc_is_words
  refine cal_of T.d_is_words sc (fun _ _ _ _ _ _ us hl => match us, hl with | [_, _], _ => rfl) (fun vs H Q E h => ?_) (fun f cdv A outer s H vs Q E hr h => ?_)
  · obtain ⟨a, zs, most, rfl, _⟩ := h
    rfl
  · obtain ⟨a, zs, most, rfl, h⟩ := h
    refine ⟨_, (pss_one (ps_ret (pe_and (pe_callB call_isi rfl T.m_isinstance (by decide +kernel) (pa_cons (pv 0) (pa_cons (pe_bltn (v := .ty "tuple") (u := .type "tuple") rfl T.m_tuple (by decide +kernel) rfl) pa_nil))) (pe_and (pe_cmpR op_le (pe_callB (r := Nm.rLenS K) (id := "len") Nm.call_lenS rfl T.m_len (by decide +kernel) (pa_cons (pv 0) pa_nil)) (pv 1) (nomark _)) (pe_one (pe_callB (cr_all rfl) rfl T.m_all (by decide +kernel) (pa_cons (pe_lc (own := [("word", 2)]) (g := gName 2) rfl sc.nd (pi_tup (pv 0)) (blkOk_by (own := [("word", 2)]) (N := ["thing", "most", "word"]) (sc := defScope s_is_words) (by decide +kernel)) (fun _ _ _ _ _ => (pg_name (i := 2) sc.nd rfl (Or.inl rfl))) (fun _ _ _ _ _ => pts_nil) (fun _ _ _ _ _ => (pe_c C_is_word hr (by omega) rfl (pa_cons (pv 2) pa_nil)))) pa_nil))))))), ?_⟩
    obtain ⟨ha, hl, hz, q⟩ := h
    obtain ⟨t, h1, h2⟩ := tyc_tup (K := K) ha
    refine ⟨_, rfl, _, _, t, _, true, rfl, .ty _, h1, h2, true, rfl, ?_⟩
    refine iteT ⟨_, rfl, a, _, rfl, .inr (SqT.of ha), _, rfl, _, _, rfl, rfl, decide (((zs.map V.str).length : Int) ≤ most), rfl, ?_⟩
    rw [List.length_map]
    by_cases c : (zs.length : Int) ≤ most
    · rw [decide_eq_true c]
      refine iteT ⟨_, rfl, a, rfl, ⟨_, SqT.of ha⟩, fun D hD => ?_⟩
      refine lc_tup (K := K) (a := a) (xs := zs.map V.str) (fun i H1 => H1 D = some (.lst ((zs.take i).map fun z => V.bl (letB z 20))) ∧ Same H H1) ⟨upd_same, same_new hD⟩ (fun i H1 _ p => SqT.of (p.2 _ _ ha)) ?_ ?_
      · rintro i x H1 hx ⟨hl1, g⟩
        obtain ⟨z, hz1, rfl⟩ : ∃ z, zs[i]? = some z ∧ x = V.str z := by
          rw [List.getElem?_map] at hx
          cases e : zs[i]? with
          | none =>
            rw [e] at hx
            cases hx
          | some z =>
            rw [e] at hx
            exact ⟨z, rfl, (Option.some.inj hx).symm⟩
        refine ⟨rfl, ?_⟩
        refine ⟨_, rfl, z, rfl, hz z (List.mem_of_getElem? hz1), fun H2 g2 => ?_⟩
        refine ⟨_, g2 _ _ hl1, ?_, ?_, ?_⟩
        · rw [List.length_map, List.length_take]
          have b : (1000 : Nat) < sizeLine := by decide
          omega
        · rw [upd_same, take_one hz1, List.map_append]
          rfl
        · exact same_mut (g.trans g2) hD
      · rintro H1 ⟨hl1, g⟩
        rw [List.length_map, List.take_length] at hl1
        refine ⟨D, zs.map (fun z => letB z 20), rfl, SqL.of (by rw [hl1, List.map_map]; rfl), ?_⟩
        have e : rowB zs most = (zs.map (fun z => letB z 20)).all id := by
          unfold rowB
          rw [decide_eq_true c, Bool.true_and, List.all_map]
          rfl
        have q' := q H1 g
        rw [e] at q'
        exact q'
    · rw [decide_eq_false c]
      refine iteF ?_
      have e : rowB zs most = false := by unfold rowB; rw [decide_eq_false c, Bool.false_and]
      have q' := q H (Same.refl H)
      rw [e] at q'
      exact q'
end
end K07
namespace K07
open PySem L2 Nm
open C8 (Cal Mak pe_c pe_mk pe_gc)
open RZ (ItzT pi_zipA)
section
variable {P : Program} {w : World} {K : PySem.W.Frag} {mg : Str → Option Value} {base : Heap}
def sp__law_tape (K : PySem.W.Frag) : Sp := fun vs H Q _ => ∃ (a : Addr), vs = [.ref a] ∧ ∃ ns : List Int, SqL K H a (ns.map V.int) ∧ ∀ tp l H', Same H H' → H tp = none → TapeAt H' tp l → Q (.ref tp) H'
theorem c__law_tape (T : Txt K mg) : Cal P w K mg base 1 "_law_tape" (sp__law_tape K) [] := by
  have sc := sc__law_tape
  refine cal_of T.d__law_tape sc (fun _ _ _ _ _ _ us hl => match us, hl with | [_], _ => rfl) (fun vs H Q E h => ?_) (fun f cdv A outer s H vs Q E hr h => ?_)
  · obtain ⟨a, rfl, _⟩ := h
    rfl
  · obtain ⟨a, rfl, h⟩ := h
    refine ⟨_, (pss_one (ps_ret (pe_lst (pa_cons (pe_callTy call_list_of rfl T.m_list (by decide +kernel) (pa_cons (pv 0) pa_nil)) (pa_cons pe_int (pa_cons pe_int (pa_cons pe_int (pa_cons pe_int pa_nil)))))))), ?_⟩
    obtain ⟨ns, hs, q⟩ := h
    refine ⟨_, rfl, a, _, rfl, .inl hs, fun l hl => ⟨(by show 5 ≤ PySem.sizeLine; decide), fun tp ht => ?_⟩⟩
    have g1 : Same H (upd H l (.lst (ns.map V.int))) := same_new hl
    exact q tp l _ (g1.trans (same_new ht)) (g1.free ht) ⟨ns, 0, 0, 1, 0, upd_same, same_new ht _ _ upd_same, Int.le_refl 0⟩
end
end K07
namespace K07
open PySem L2 Nm
open C8 (Cal Mak pe_c pe_mk pe_gc)
open RZ (ItzT pi_zipA)
section
variable {P : Program} {w : World} {K : PySem.W.Frag} {mg : Str → Option Value} {base : Heap}
def sp__law_pick (K : PySem.W.Frag) : Sp := fun vs H Q _ => ∃ (tp : Addr) (size : Int), vs = [.ref tp, .int size] ∧ ∃ l, TapeAt H tp l ∧ 1 ≤ size ∧ size ≤ 1000 ∧ ∀ r H', 0 ≤ r → r < size → TapeAt H' tp l → Mov tp H H' → Q (.int r) H'
theorem c__law_pick (T : Txt K mg) : Cal P w K mg base 1 "_law_pick" (sp__law_pick K) [] := by
  have sc := sc__law_pick
  refine cal_of T.d__law_pick sc (fun _ _ _ _ _ _ us hl => match us, hl with | [_, _], _ => rfl) (fun vs H Q E h => ?_) (fun f cdv A outer s H vs Q E hr h => ?_)
  · obtain ⟨tp, size, rfl, _⟩ := h
    rfl
  · obtain ⟨tp, size, rfl, h⟩ := h
    refine ⟨_, (pss_cons (ps_if (pt_cmpR op_gt (pe_ix ix_list (pv 0) pe_int (fun _ _ => rfl)) pe_int (nomark _)) (pss_cons (ps_set (i := 2) sc.nd rfl (Or.inl rfl) (pe_op op_mod (pe_callTy call_int1 rfl T.m_int (by decide +kernel) (pa_cons (pe_ix ix_list (pv 0) pe_int (fun _ _ => rfl)) pa_nil)) (pv 1)))
  (pss_cons (ps_asg (pe_op op_fdiv (pe_ix ix_list (pv 0) pe_int (fun _ _ => rfl)) (pv 1)) (pg_sub (pv 0) pe_int set_list))
  (pss_one (ps_ret (pv 2))))) pss_nil)
  (pss_cons (ps_asg (pe_op op_add (pe_ix ix_list (pv 0) pe_int (fun _ _ => rfl)) pe_int) (pg_sub (pv 0) pe_int set_list))
  (pss_cons (ps_set (i := 3) sc.nd rfl (Or.inl rfl) pe_int)
  (C8.pss_cut (ps_if (pt_cmpR op_lt (pe_ix ix_list (pv 0) pe_int (fun _ _ => rfl)) (pe_callB (r := Nm.rLenS K) (id := "len") Nm.call_lenS rfl T.m_len (by decide +kernel) (pa_cons (pe_ix ix_list (pv 0) pe_int (fun _ _ => rfl)) pa_nil)) (nomark _)) (pss_cons (ps_set (i := 3) sc.nd rfl (Or.inl rfl) (pe_ix ix_list (pe_ix ix_list (pv 0) pe_int (fun _ _ => rfl)) (pe_ix ix_list (pv 0) pe_int (fun _ _ => rfl)) (fun _ _ => rfl)))
  (pss_one (ps_asg (pe_op op_add (pe_ix ix_list (pv 0) pe_int (fun _ _ => rfl)) pe_int) (pg_sub (pv 0) pe_int set_list)))) pss_nil)
  (pss_cons (ps_if (pt_cmpR op_ge (pv 3) (pe_op op_pow pe_int pe_int) (nomark _)) (pss_cons (ps_asg (pe_op op_fdiv (pv 3) (pv 1)) (pg_sub (pv 0) pe_int set_list))
  (pss_one (ps_ret (pe_op op_mod (pe_callTy call_int1 rfl T.m_int (by decide +kernel) (pa_cons (pv 3) pa_nil)) (pv 1))))) pss_nil)
  (pss_cons (ps_set (i := 4) sc.nd rfl (Or.inl rfl) (pe_op op_mod (pe_callTy call_int1 rfl T.m_int (by decide +kernel) (pa_cons (pe_op op_add (pe_op op_add (pe_op op_mul (pe_ix ix_list (pv 0) pe_int (fun _ _ => rfl)) pe_int) (pe_op op_mod (pe_callTy call_int1 rfl T.m_int (by decide +kernel) (pa_cons (pv 3) pa_nil)) pe_int)) (pe_op op_mul (pe_ix ix_list (pv 0) pe_int (fun _ _ => rfl)) pe_int)) pa_nil)) pe_int))
  (pss_cons (ps_set (i := 4) sc.nd rfl (Or.inl rfl) (pe_op op_mod (pe_callTy call_int1 rfl T.m_int (by decide +kernel) (pa_cons (pe_op op_mul (pv 4) (pe_op op_add (pe_op op_fdiv (pv 4) pe_int) pe_int)) pa_nil)) pe_int))
  (pss_cons (ps_asg (pv 4) (pg_sub (pv 0) pe_int set_list))
  (pss_one (ps_ret (pe_op op_mod (pe_callTy call_int1 rfl T.m_int (by decide +kernel) (pa_cons (pe_op op_fdiv (pv 4) pe_int) pa_nil)) (pv 1)))))))))))), ?_⟩
    obtain ⟨l, ⟨ns, i, c, m, n, ht, hl, h0⟩, s1, s2, q⟩ := h
    have nl : l ≠ tp := tape_ne ht hl
    have pos : (0 : Int) < size := by omega
    refine ⟨_, rfl, tp, _, 2, .int c, rfl, rfl, SqL.of ht, rfl, _, _, rfl, rfl, _, rfl, ?_⟩
    refine ite2 (fun _ => ?_) (fun _ => ?_)
    · refine ⟨_, rfl, tp, _, 2, .int c, rfl, rfl, SqL.of ht, rfl, .inl ⟨c, rfl, _, rfl, c, size, rfl, rfl, pos, ?_⟩⟩
      refine ⟨_, rfl, tp, _, 2, .int c, rfl, rfl, SqL.of ht, rfl, _, rfl, c, size, rfl, rfl, ⟨pos, by omega⟩, ?_⟩
      refine ⟨_, rfl, tp, _, 2, 2, rfl, rfl, ht, rfl, _, rfl, ?_⟩
      exact q _ _ (Int.emod_nonneg _ (by omega)) (Int.emod_lt_of_pos _ pos) ⟨ns, i, c / size, m, n, upd_same, by rw [upd_ne nl]; exact hl, h0⟩ mov_upd
    · refine ⟨_, rfl, tp, _, 4, .int n, rfl, rfl, SqL.of ht, rfl, n, 1, rfl, rfl, _, rfl, tp, _, 4, 4, rfl, rfl, ht, rfl, ?_⟩
      have ht1 : upd H tp (.lst [.ref l, .int i, .int c, .int m, .int (n + 1)]) tp = some (.lst [.ref l, .int i, .int c, .int m, .int (n + 1)]) := upd_same
      have hl1 : upd H tp (.lst [.ref l, .int i, .int c, .int m, .int (n + 1)]) l = some (.lst (ns.map V.int)) := by
        rw [upd_ne nl]
        exact hl
      refine ⟨fun σ H1 => ∃ cell j, σ = [some (.ref tp), some (.int size), none, some (.int cell), none] ∧ 0 ≤ j ∧ H1 tp = some (.lst [.ref l, .int j, .int c, .int m, .int (n + 1)]) ∧ H1 l = some (.lst (ns.map V.int)) ∧ Mov tp H H1, ?_, ?_⟩
      · refine ⟨_, rfl, tp, _, 1, .int i, rfl, rfl, SqL.of ht1, rfl, _, rfl, tp, _, 0, .ref l, rfl, rfl, SqL.of ht1, rfl, l, _, rfl, .inl (SqL.of hl1), _, _, rfl, rfl, _, rfl, ?_⟩
        rw [List.length_map]
        refine ite2 (fun z => ?_) (fun _ => ?_)
        · have z' : i < (ns.length : Int) := of_decide_eq_true z
          have at1 : atI (ns.map V.int) i = some (V.int (ns.getD i.toNat 0)) := by
            have e : i = ((i.toNat : Nat) : Int) := by omega
            rw [e, Int.toNat_natCast]
            exact at_getD (by omega)
          refine ⟨_, rfl, tp, _, 0, .ref l, rfl, rfl, SqL.of ht1, rfl, _, rfl, tp, _, 1, .int i, rfl, rfl, SqL.of ht1, rfl, l, _, i, _, rfl, rfl, SqL.of hl1, at1, ?_⟩
          refine ⟨_, rfl, tp, _, 1, .int i, rfl, rfl, SqL.of ht1, rfl, i, 1, rfl, rfl, _, rfl, tp, _, 1, 1, rfl, rfl, ht1, rfl, ?_⟩
          exact ⟨_, i + 1, rfl, by omega, upd_same, by rw [upd_ne nl]; exact hl1, mov_upd.trans mov_upd⟩
        · exact ⟨0, i, rfl, h0, ht1, hl1, mov_upd⟩
      · rintro σ H1 ⟨cell, j, rfl, j0, ht2, hl2, mv⟩
        refine ⟨_, rfl, _, _, rfl, rfl, ⟨by decide, by decide, by decide⟩, _, _, rfl, rfl, _, rfl, ?_⟩
        refine ite2 (fun _ => ?_) (fun _ => ?_)
        · refine ⟨_, rfl, _, rfl, cell, size, rfl, rfl, ⟨pos, by omega⟩, _, rfl, tp, _, 2, 2, rfl, rfl, ht2, rfl, ?_⟩
          refine ⟨_, rfl, .inl ⟨cell, rfl, _, rfl, cell, size, rfl, rfl, pos, ?_⟩⟩
          exact q _ _ (Int.emod_nonneg _ (by omega)) (Int.emod_lt_of_pos _ pos) ⟨ns, j, cell / size, m, n + 1, upd_same, by rw [upd_ne nl]; exact hl2, j0⟩ (mv.trans mov_upd)
        · refine ⟨_, rfl, tp, _, 3, .int m, rfl, rfl, SqL.of ht2, rfl, _, _, rfl, rfl, .inr ⟨by decide, by decide⟩, _, rfl, .inl ⟨cell, rfl, cell, _, rfl, rfl, (by show (0 : Int) < _; decide), ?_⟩⟩
          refine ⟨_, _, rfl, rfl, _, rfl, tp, _, 4, .int (n + 1), rfl, rfl, SqL.of ht2, rfl, _, _, rfl, rfl, .inr ⟨by decide, by decide⟩, ?_⟩
          refine ⟨_, _, rfl, rfl, .inl ⟨_, rfl, _, _, rfl, rfl, (by show (0 : Int) < _; decide), ?_⟩⟩
          have x0 : 0 ≤ (m * 48271 + cell % 2147483629 + (n + 1) * 69621) % 2147483647 := Int.emod_nonneg _ (by decide)
          have x1 : (m * 48271 + cell % 2147483629 + (n + 1) * 69621) % 2147483647 < 2147483647 := Int.emod_lt_of_pos _ (by decide)
          refine ⟨_, rfl, _, rfl, _, _, rfl, rfl, ⟨by decide, by decide⟩, _, _, rfl, rfl, _, _, rfl, rfl, .inl ⟨by omega, by omega⟩, .inl ⟨_, rfl, _, _, rfl, rfl, (by show (0 : Int) < _; decide), ?_⟩⟩
          refine ⟨_, rfl, _, rfl, tp, _, 3, 3, rfl, rfl, ht2, rfl, ?_⟩
          refine ⟨_, rfl, _, _, rfl, rfl, ⟨by decide, by decide⟩, .inl ⟨_, rfl, _, rfl, _, size, rfl, rfl, pos, ?_⟩⟩
          exact q _ _ (Int.emod_nonneg _ (by omega)) (Int.emod_lt_of_pos _ pos) ⟨ns, j, c, _, n + 1, upd_same, by rw [upd_ne nl]; exact hl2, j0⟩ (mv.trans mov_upd)
end
end K07
namespace K07
open PySem L2 Nm
open C8 (Cal Mak pe_c pe_mk pe_gc)
open RZ (ItzT pi_zipA)
section
variable {P : Program} {w : World} {K : PySem.W.Frag} {mg : Str → Option Value} {base : Heap}
def sp_is_row (K : PySem.W.Frag) : Sp := fun vs H Q _ => ∃ (a : Addr) (zs : List Str), vs = [.ref a] ∧ H a = some (.tup (zs.map V.str)) ∧ rwOk zs ∧ ∀ H', Same H H' → Q (.bl true) H'
theorem c_is_row (T : Txt K mg) : Cal P w K mg base 4 "is_row" (sp_is_row K) [] := by
  have C_is_words := c_is_words (P := P) (w := w) (base := base) T
  have sc := sc_is_row
  refine cal_of T.d_is_row sc (fun _ _ _ _ _ _ us hl => match us, hl with | [_], _ => rfl) (fun vs H Q E h => ?_) (fun f cdv A outer s H vs Q E hr h => ?_)
  · obtain ⟨a, zs, rfl, _⟩ := h
    rfl
  · obtain ⟨a, zs, rfl, h⟩ := h
    refine ⟨_, (pss_one (ps_ret (pe_c C_is_words hr (by omega) rfl (pa_cons (pv 0) (pa_cons (pe_gc rfl T.g_MOST_WORDS) pa_nil))))), ?_⟩
    obtain ⟨ha, ok, q⟩ := h
    rw [← rowB_of ok] at q
    exact ⟨_, rfl, a, zs, 60, rfl, ha, by have := ok.1; omega, fun z hz => (ok.2 z hz).2, q⟩
end
end K07
namespace K07
open PySem L2 Nm
open C8 (Cal Mak pe_c pe_mk pe_gc)
open RZ (ItzT pi_zipA)
theorem asc_rows {rs : List (List Str)} (h : rs.Pairwise bef) : ∀ p ∈ rs.zip (rs.drop 1), rowLt p.1 p.2 = true := by
  induction rs with
  | nil =>
    intro p hp
    simp at hp
  | cons a r ih =>
    intro p hp
    obtain ⟨h1, h2⟩ := List.pairwise_cons.mp h
    cases r with
    | nil => simp at hp
    | cons b r =>
      rw [List.drop_one, List.tail_cons] at hp
      rcases List.mem_cons.mp (show p ∈ (a, b) :: ((b :: r).zip r) from hp) with e | e
      · rw [e]
        exact h1 b List.mem_cons_self
      · refine ih h2 p ?_
        rw [List.drop_one, List.tail_cons]
        exact e
theorem paired_drop {α β : Type} {R : α → β → Prop} : ∀ {xs : List α} {ys : List β}, Paired R xs ys → ∀ n, Paired R (xs.drop n) (ys.drop n)
  | _, _, h, 0 => h
  | _, _, .nil, n + 1 => by
    rw [List.drop_nil, List.drop_nil]
    exact .nil
  | _, _, .cons _ t, n + 1 => paired_drop t n
section
variable {P : Program} {w : World} {K : PySem.W.Frag} {mg : Str → Option Value} {base : Heap}
def sp_is_ascending (K : PySem.W.Frag) : Sp := fun vs H Q _ => ∃ (a : Addr), vs = [.ref a] ∧ ∃ rs, GmAt H a rs ∧ rs.Pairwise bef ∧ rs.length ≤ 1000 ∧ ∀ H', Same H H' → Q (.bl true) H'
theorem c_is_ascending (T : Txt K mg) : Cal P w K mg base 1 "is_ascending" (sp_is_ascending K) [] := by
  have sc := sc_is_ascending
  refine cal_of T.d_is_ascending sc (fun _ _ _ _ _ _ us hl => match us, hl with | [_], _ => rfl) (fun vs H Q E h => ?_) (fun f cdv A outer s H vs Q E hr h => ?_)
  · obtain ⟨a, rfl, _⟩ := h
    rfl
  · obtain ⟨a, rfl, h⟩ := h
    refine ⟨_, (pss_one (ps_ret (pe_callB (cr_all rfl) rfl T.m_all (by decide +kernel) (pa_cons (pe_lc (own := [("one", 1), ("other", 2)]) (g := gTup K 2 (gCons (gName 1) (gCons (gName 2) gNil))) rfl sc.nd (pi_zipA rfl T.m_zip (pa_cons (pv 0) (pa_cons (pe_slice sl_tupA (pv 0) (po_some pe_int) po_none) pa_nil))) (blkOk_by (own := [("one", 1), ("other", 2)]) (N := ["things", "one", "other"]) (sc := defScope s_is_ascending) (by decide +kernel)) (fun _ _ _ _ _ => (pg_tup rfl (pgs_cons (pg_name (i := 1) sc.nd rfl (Or.inl rfl)) (pgs_cons (pg_name (i := 2) sc.nd rfl (Or.inl rfl)) pgs_nil)))) (fun _ _ _ _ _ => pts_nil) (fun _ _ _ _ _ => (pe_cmpR (r := Nm.rLtDt K) (Nm.op_ltDt (u65 hr)) (pv 1) (pv 2) (nomark _)))) pa_nil)))), ?_⟩
    obtain ⟨rs, ⟨xs, ha, pa⟩, up, len, q⟩ := h
    have el := paired_len pa
    refine ⟨_, rfl, _, rfl, 1, rfl, ?_⟩
    dsimp only [tNoPart]
    refine sl_from1 ha fun b H1 g1 hb => ?_
    have pb := paired_drop pa 1
    refine ⟨a, b, xs, xs.drop 1, rfl, .inr ⟨SqT.of (g1 _ _ ha), SqT.of hb, fun D hD => ?_⟩⟩
    have lz : (rs.zip (rs.drop 1)).length = min xs.length (xs.drop 1).length := by
      rw [List.length_zip, el, List.length_drop, List.length_drop, el]
    refine lcS (walk_zipT (K := K) (a := a) (b := b) (xs := xs) (ys := xs.drop 1) rfl) stays_bl (rs.zip (rs.drop 1)) (fun _ => true) (fun p => rowLt p.1 p.2) lz.symm (by rw [List.length_zip]; omega) (fun H2 g => ⟨SqT.of (g _ _ (g1 _ _ ha)), SqT.of (g _ _ hb)⟩) hD ?_ ?_
    · rintro i x p H2 H3 Nx hp ⟨t3, x1, y1, rfl, hn, rfl, e1, e2⟩ sm _ yes
      obtain ⟨w1, hw1, r1, rfl, hr1⟩ := paired_at pa i _ e1
      obtain ⟨w2, hw2, r2, rfl, hr2⟩ := paired_at pb i _ e2
      have hz : p = (w1, w2) := by
        have z : (rs.zip (rs.drop 1))[i]? = some (w1, w2) := by
          rw [List.getElem?_zip_eq_some]
          exact ⟨hw1, hw2⟩
        rw [z] at hp
        exact (Option.some.inj hp).symm
      subst hz
      have g3 := (g1.trans sm).trans (same_new (o := .tup [V.ref r1, V.ref r2]) hn)
      refine ⟨t3, [.ref r1, .ref r2], rfl, SqT.of upd_same, rfl, _, _, rfl, _, _, rfl, rfl, rfl, ?_⟩
      refine ⟨_, rfl, _, rfl, rowL w1, rowL w2, dp_row (g3 _ _ hr1), dp_row (g3 _ _ hr2), alike_rowL _ _, by rw [depth_rowL]; decide, ?_⟩
      exact yes rfl _ _ (same_new hn) rfl
    · intro H2 sm l
      refine ⟨D, _, rfl, sql_bl l, ?_⟩
      have e : (((rs.zip (rs.drop 1)).filter fun _ => true).map fun p => rowLt p.1 p.2).all id = true := by
        rw [filter_all, List.all_map, List.all_eq_true]
        exact asc_rows up
      rw [e]
      exact q H2 (g1.trans sm)
end
end K07
namespace K07
open PySem L2 Nm
open C8 (Cal Mak pe_c pe_mk pe_gc)
open RZ (ItzT pi_zipA)
section
variable {P : Program} {w : World} {K : PySem.W.Frag} {mg : Str → Option Value} {base : Heap}
def sp_is_game (K : PySem.W.Frag) : Sp := fun vs H Q _ => ∃ (a : Addr), vs = [.ref a] ∧ ∃ rs, GmAt H a rs ∧ IsG rs ∧ ∀ H', Same H H' → Q (.bl true) H'
theorem c_is_game (T : Txt K mg) : Cal P w K mg base 5 "is_game" (sp_is_game K) [] := by
  have C_is_ascending := c_is_ascending (P := P) (w := w) (base := base) T
  have C_is_row := c_is_row (P := P) (w := w) (base := base) T
  have sc := sc_is_game
  refine cal_of T.d_is_game sc (fun _ _ _ _ _ _ us hl => match us, hl with | [_], _ => rfl) (fun vs H Q E h => ?_) (fun f cdv A outer s H vs Q E hr h => ?_)
  · obtain ⟨a, rfl, _⟩ := h
    rfl
  · obtain ⟨a, rfl, h⟩ := h
    refine ⟨_, (pss_cons (ps_if (PW.pt (pw_or (pt_not (pt_val (pe_callB call_isi rfl T.m_isinstance (by decide +kernel) (pa_cons (pv 0) (pa_cons (pe_bltn (v := .ty "tuple") (u := .type "tuple") rfl T.m_tuple (by decide +kernel) rfl) pa_nil))))) (pw_or1 (pt_not (pt_chain op_le op_le pe_int (pe_callB (r := Nm.rLenS K) (id := "len") Nm.call_lenS rfl T.m_len (by decide +kernel) (pa_cons (pv 0) pa_nil)) (pe_gc rfl T.g_MOST_ROWS)))))) (pss_one (ps_ret pe_bl)) pss_nil)
  (pss_cons (ps_if (PW.pt (pw_or (pt_not (pt_val (pe_callB (cr_all rfl) rfl T.m_all (by decide +kernel) (pa_cons (pe_lc (own := [("row", 2)]) (g := gName 2) rfl sc.nd (pi_tup (pv 0)) (blkOk_by (own := [("row", 2)]) (N := ["thing", "rows", "row"]) (sc := defScope s_is_game) (by decide +kernel)) (fun _ _ _ _ _ => (pg_name (i := 2) sc.nd rfl (Or.inl rfl))) (fun _ _ _ _ _ => pts_nil) (fun _ _ _ _ _ => (pe_c C_is_row hr (by omega) rfl (pa_cons (pv 2) pa_nil)))) pa_nil)))) (pw_or1 (pt_not (pt_val (pe_c C_is_ascending hr (by omega) rfl (pa_cons (pv 0) pa_nil))))))) (pss_one (ps_ret pe_bl)) pss_nil)
  (pss_cons (ps_set (i := 1) sc.nd rfl (Or.inr rfl) (Nm.pe_dcT (own := [("row", 2)]) (g := gName 2) rfl sc.nd (hu_of hr) (pi_tup (pv 0)) (blkOk_by (own := [("row", 2)]) (N := ["thing", "rows", "row"]) (sc := defScope s_is_game) (by decide +kernel)) (fun _ _ _ _ _ => (pg_name (i := 2) sc.nd rfl (Or.inl rfl))) (fun _ _ _ _ _ => (pv 2)) (fun _ _ _ _ _ => pe_bl)))
  (pss_one (ps_ret (pe_callB (cr_all rfl) rfl T.m_all (by decide +kernel) (pa_cons (pe_lc (own := [("row", 2)]) (g := gName 2) rfl sc.nd (pi_tup (pv 0)) (blkOk_by (own := [("row", 2)]) (N := ["thing", "rows", "row"]) (sc := defScope s_is_game) (by decide +kernel)) (fun _ _ _ _ _ => (pg_name (i := 2) sc.nd rfl (Or.inl rfl))) (fun _ _ _ _ _ => pts_nil) (fun _ _ _ _ _ => (pe_cmp (pc_din (hu_of hr) (pe_slice (r := rSlA K) sl_tupA (pv 2) po_none (po_some (pe_un un_neg pe_int))) (pv 1)) rfl))) pa_nil))))))), ?_⟩
    obtain ⟨rs, gm, G, q⟩ := h
    obtain ⟨xs, ha, pa⟩ := id gm
    have el := paired_len pa
    have few := G.few
    have one : 1 ≤ rs.length := List.length_pos_of_mem G.nil
    obtain ⟨t, h1, h2⟩ := tyc_tup (K := K) ha
    refine ⟨_, rfl, _, _, t, _, true, rfl, .ty _, h1, h2, true, rfl, ?_⟩
    refine iteF ⟨_, rfl, a, _, rfl, .inr (SqT.of ha), _, _, rfl, rfl, _, rfl, ?_⟩
    rw [decide_eq_true (show 1 ≤ (xs.length : Int) by omega)]
    refine iteT ⟨_, _, rfl, rfl, _, rfl, ?_⟩
    rw [decide_eq_true (show (xs.length : Int) ≤ 600 by omega)]
    refine iteF ⟨_, rfl, a, rfl, ⟨_, SqT.of ha⟩, fun D hD => ?_⟩
    refine lcS (walk_tup (K := K) (a := a) (xs := xs)) stays_bl rs (fun _ => true) (fun _ => true) el (by omega) (fun H1 g => SqT.of (g _ _ ha)) hD ?_ ?_
    · rintro i x ws H1 H2 Nx hw ⟨rfl, hx⟩ sm _ yes
      obtain ⟨ws', hw', r, rfl, hr⟩ := paired_at pa i _ hx
      have e : ws' = ws := Option.some.inj (hw'.symm.trans hw)
      subst e
      refine ⟨rfl, ?_⟩
      exact ⟨_, rfl, r, ws', rfl, sm _ _ hr, G.ok _ (List.mem_of_getElem? hw), fun H3 g3 => yes rfl _ _ g3 rfl⟩
    · intro H1 sm l
      refine ⟨D, _, rfl, sql_bl l, true, ?_, ?_⟩
      · rw [filter_all]
        have e : ((rs.map fun _ => true).all id) = true := by
          rw [List.all_map, List.all_eq_true]
          exact fun _ _ => rfl
        rw [e]
      refine iteF ⟨_, rfl, a, rfl, rs, gm.keep (tups_same sm), G.up, by omega, fun H2 g2 => ⟨true, rfl, ?_⟩⟩
      refine iteF ?_
      have sm2 := sm.trans g2
      have gm2 := gm.keep (tups_same sm2)
      refine ⟨_, rfl, a, rfl, ⟨_, SqT.of (sm2 _ _ ha)⟩, fun D2 hD2 => ?_⟩
      refine dcT_true (K := K) gm2 (by omega) hD2 (fun i r ws H3 Nx hw g3 hr ⟨ents, e1, e2, e3⟩ => ⟨rfl, _, rfl, ents, keyRow ws, r, rfl, e1, by rw [kV_row]; exact hr, e2, e3⟩) ?_
      intro H3 ents ks g3 hD3 hk mem
      have sm3 := sm2.trans g3
      refine ⟨_, rfl, a, rfl, ⟨_, SqT.of (sm3 _ _ ha)⟩, fun D4 hD4 => ?_⟩
      have n34 : D2 ≠ D4 := ne_of_none hD3 hD4
      refine lcS (walk_tup (K := K) (a := a) (xs := xs)) stays_bl rs (fun _ => true) (fun _ => true) el (by omega) (fun H1 g => SqT.of (g _ _ (sm3 _ _ ha))) hD4 ?_ ?_
      · rintro i x ws H4 H5 Nx hw ⟨rfl, hx⟩ sm4 _ yes
        obtain ⟨ws', hw', r, rfl, hr⟩ := paired_at pa i _ hx
        have e : ws' = ws := Option.some.inj (hw'.symm.trans hw)
        subst e
        refine ⟨rfl, ?_⟩
        refine ⟨_, rfl, 1, rfl, _, rfl, sl_last (sm4 _ _ (sm3 _ _ hr)) fun r2 H5 g5 hr2 => ?_⟩
        have m : ws'.dropLast ∈ ks := (mem _).mpr (G.pre _ (List.mem_of_getElem? hw))
        refine ⟨_, rfl, D2, valV ents (keyRow ws'.dropLast), rfl, DGet.t (g5 _ _ (sm4 _ _ hD3)) (by rw [kV_row, List.map_dropLast]; exact hr2), ?_⟩
        rw [keys_isSome hk, decide_eq_true m]
        exact yes rfl _ _ g5 rfl
      · intro H4 sm4 l4
        refine ⟨D4, _, rfl, sql_bl l4, ?_⟩
        rw [filter_all]
        have e : ((rs.map fun _ => true).all id) = true := by
          rw [List.all_map, List.all_eq_true]
          exact fun _ _ => rfl
        rw [e]
        exact q H4 (sm3.trans sm4)
end
end K07
namespace K07
open PySem L2 Nm
open C8 (Cal Mak pe_c pe_mk pe_gc)
open RZ (ItzT pi_zipA)
section
variable {P : Program} {w : World} {K : PySem.W.Frag} {mg : Str → Option Value} {base : Heap}
def sp_check_game (K : PySem.W.Frag) : Sp := fun vs H Q _ => ∃ (a : Addr), vs = [.ref a] ∧ ∃ rs, GmAt H a rs ∧ IsG rs ∧ ∀ H', Same H H' → Q .non H'
theorem c_check_game (T : Txt K mg) : Cal P w K mg base 6 "check_game" (sp_check_game K) [] := by
  have C_is_game := c_is_game (P := P) (w := w) (base := base) T
  have sc := sc_check_game
  refine cal_of T.d_check_game sc (fun _ _ _ _ _ _ us hl => match us, hl with | [_], _ => rfl) (fun vs H Q E h => ?_) (fun f cdv A outer s H vs Q E hr h => ?_)
  · obtain ⟨a, rfl, _⟩ := h
    rfl
  · obtain ⟨a, rfl, h⟩ := h
    refine ⟨_, (pss_one (ps_if (pt_not (pt_val (pe_c C_is_game hr (by omega) rfl (pa_cons (pv 0) pa_nil)))) (pss_one ps_never) pss_nil)), ?_⟩
    obtain ⟨rs, gm, G, q⟩ := h
    exact ⟨_, rfl, a, rfl, rs, gm, G, fun H1 g1 => ⟨true, rfl, iteF (q H1 g1)⟩⟩
end
end K07
namespace K07
open PySem L2 Nm
open C8 (Cal Mak pe_c pe_mk pe_gc)
open RZ (ItzT pi_zipA)
section
variable {P : Program} {w : World} {K : PySem.W.Frag} {mg : Str → Option Value} {base : Heap}
def sp_check_place (K : PySem.W.Frag) : Sp := fun vs H Q _ => ∃ (a r : Addr), vs = [.ref a, .ref r] ∧ ∃ rs row, GmAt H a rs ∧ IsG rs ∧ H r = some (.tup (row.map V.str)) ∧ row ∈ rs ∧ ∀ H', Same H H' → Q .non H'
theorem c_check_place (T : Txt K mg) : Cal P w K mg base 7 "check_place" (sp_check_place K) [] := by
  have C_check_game := c_check_game (P := P) (w := w) (base := base) T
  have C_is_row := c_is_row (P := P) (w := w) (base := base) T
  have sc := sc_check_place
  refine cal_of T.d_check_place sc (fun _ _ _ _ _ _ us hl => match us, hl with | [_, _], _ => rfl) (fun vs H Q E h => ?_) (fun f cdv A outer s H vs Q E hr h => ?_)
  · obtain ⟨a, r, rfl, _⟩ := h
    rfl
  · obtain ⟨a, r, rfl, h⟩ := h
    refine ⟨_, (pss_cons (ps_expr (pe_c C_check_game hr (by omega) rfl (pa_cons (pv 0) pa_nil)))
  (pss_one (ps_if (PW.pt (pw_or (pt_not (pt_val (pe_c C_is_row hr (by omega) rfl (pa_cons (pv 1) pa_nil)))) (pw_or1 (pt_cmpR (Nm.op_notInT (u65 hr)) (pv 1) (pv 0) rfl)))) (pss_one ps_never) pss_nil))), ?_⟩
    obtain ⟨rs, row, gm, G, hr, mr, q⟩ := h
    refine ⟨_, rfl, a, rfl, rs, gm, G, fun H1 g1 => ?_⟩
    refine ⟨_, rfl, r, row, rfl, g1 _ _ hr, G.ok _ mr, fun H2 g2 => ⟨true, rfl, iteF ?_⟩⟩
    have g := g1.trans g2
    refine ⟨_, rfl, _, rfl, rowD row, rs.map rowD, dp_row (g _ _ hr), dp_game (gm.keep (tups_same g)), shaped_rw (G.ok _ mr).2, shaped_game fun z hz => (G.ok z hz).2, ?_⟩
    rw [any_row, decide_eq_true mr]
    exact ⟨false, rfl, iteF (q H2 g)⟩
end
end K07
namespace K07
open PySem L2 Nm
open C8 (Cal Mak pe_c pe_mk pe_gc)
open RZ (ItzT pi_zipA)
theorem at_lastW {ws : List Str} (h : ws ≠ []) : atI (ws.map V.str) (-1) = some (V.str (lastW ws)) := by
  have e : ws = ws.dropLast ++ [ws.getLast h] := (List.dropLast_concat_getLast h).symm
  have l : 0 < ws.length := List.length_pos_iff.mpr h
  unfold atI ixN
  rw [List.length_map, if_neg (by decide), if_pos (by omega)]
  show (ws.map V.str)[((-1 : Int) + (ws.length : Int)).toNat]? = _
  rw [show ((-1 : Int) + (ws.length : Int)).toNat = ws.length - 1 by omega, List.getElem?_map]
  unfold lastW
  rw [List.getLast?_eq_getElem?]
  cases c : ws[ws.length - 1]? with
  | none =>
    have := List.getElem?_eq_none_iff.mp c
    omega
  | some x => rfl
section
variable {P : Program} {w : World} {K : PySem.W.Frag} {mg : Str → Option Value} {base : Heap}
def sp_let_words (K : PySem.W.Frag) : Sp := fun vs H Q _ => ∃ (a r : Addr), vs = [.ref a, .ref r] ∧ ∃ rs row, GmAt H a rs ∧ IsG rs ∧ H r = some (.tup (row.map V.str)) ∧ row ∈ rs ∧ ∀ p H', Same H H' → H' p = some (.tup ((wordsAt rs row).map V.str)) → Q (.ref p) H'
theorem c_let_words (T : Txt K mg) : Cal P w K mg base 8 "let_words" (sp_let_words K) [] := by
  have C_check_place := c_check_place (P := P) (w := w) (base := base) T
  have sc := sc_let_words
  refine cal_of T.d_let_words sc (fun _ _ _ _ _ _ us hl => match us, hl with | [_, _], _ => rfl) (fun vs H Q E h => ?_) (fun f cdv A outer s H vs Q E hr h => ?_)
  · obtain ⟨a, r, rfl, _⟩ := h
    rfl
  · obtain ⟨a, r, rfl, h⟩ := h
    refine ⟨_, (pss_cons (ps_expr (pe_c C_check_place hr (by omega) rfl (pa_cons (pv 0) (pa_cons (pv 1) pa_nil))))
  (pss_one (ps_ret (pe_callTy call_tuple_of rfl T.m_tuple (by decide +kernel) (pa_cons (pe_lc (own := [("longer", 2)]) (g := gName 2) rfl sc.nd (pi_tup (pv 0)) (blkOk_by (own := [("longer", 2)]) (N := ["game", "row", "longer"]) (sc := defScope s_let_words) (by decide +kernel)) (fun _ _ _ _ _ => (pg_name (i := 2) sc.nd rfl (Or.inl rfl))) (fun _ _ _ _ _ => (pts_one (PW.pt (pw_and (pt_cmpR op_eq (pe_callB (r := Nm.rLenS K) (id := "len") Nm.call_lenS rfl T.m_len (by decide +kernel) (pa_cons (pv 2) pa_nil)) (pe_op op_add (pe_callB (r := Nm.rLenS K) (id := "len") Nm.call_lenS rfl T.m_len (by decide +kernel) (pa_cons (pv 1) pa_nil)) pe_int) (nomark _)) (pw_and1 (pt_cmpR (r := rEqD K) (op_eqD hr.units) (pe_slice (r := rSlA K) sl_tupA (pv 2) po_none (po_some (pe_un un_neg pe_int))) (pv 1) (nomark _))))))) (fun _ _ _ _ _ => (pe_ix (r := rIxT K) ix_tup (pv 2) (pe_un un_neg pe_int) (fun _ _ => rfl)))) pa_nil))))), ?_⟩
    obtain ⟨rs, row, gm, G, hr, mr, q⟩ := h
    have few := G.few
    refine ⟨_, rfl, _, rfl, a, r, rfl, rs, row, gm, G, hr, mr, fun H1 g1 => ?_⟩
    obtain ⟨xs, ha, pa⟩ := gm.keep (tups_same g1)
    have el := paired_len pa
    have hr1 := g1 _ _ hr
    refine ⟨_, rfl, a, rfl, ⟨_, SqT.of ha⟩, fun D hD => ?_⟩
    refine lcS (walk_tup (K := K) (a := a) (xs := xs)) stays_str rs (isNext row) lastW el (by omega) (fun H2 g => SqT.of (g _ _ ha)) hD ?_ ?_
    · rintro i x ws H2 H3 Nx hw ⟨rfl, hx⟩ sm no yes
      obtain ⟨ws', hw', y, rfl, hy⟩ := paired_at pa i _ hx
      have e : ws' = ws := Option.some.inj (hw'.symm.trans hw)
      subst e
      refine ⟨rfl, ?_⟩
      have hy2 := sm _ _ hy
      refine ⟨_, rfl, y, _, rfl, .inr (SqT.of hy2), _, rfl, r, _, rfl, .inr (SqT.of (sm _ _ hr1)), _, _, rfl, rfl, rfl, _, rfl, ?_⟩
      rw [List.length_map, List.length_map, decI]
      refine ite2 (fun z => ?_) (fun z => ?_)
      · have lz : ws'.length = row.length + 1 := by
          have := of_decide_eq_true z
          omega
        refine ⟨_, rfl, 1, rfl, _, rfl, sl_last hy2 fun r2 H4 g4 hr2 => ?_⟩
        rw [← List.map_dropLast] at hr2
        refine ⟨_, rfl, rowD ws'.dropLast, rowD row, dp_row hr2, dp_row (g4 _ _ (sm _ _ hr1)), ?_⟩
        have okw := (G.ok _ (List.mem_of_getElem? hw)).2
        refine ⟨shaped_rw fun z hz => okw z (List.dropLast_subset _ hz), shaped_rw (G.ok _ mr).2, ?_⟩
        rw [eqv_row]
        by_cases c : ws'.dropLast = row
        · rw [decide_eq_true c]
          refine ⟨true, rfl, iteT ?_⟩
          have nx : isNext row ws' = true := by
            unfold isNext
            rw [decide_eq_true lz, decide_eq_true c]
            rfl
          have ne : ws' ≠ [] := fun e => by
            rw [e] at lz
            simp at lz
          exact ⟨_, rfl, 1, rfl, y, _, -1, _, rfl, rfl, SqT.of (g4 _ _ hy2), at_lastW ne, yes nx _ _ g4 rfl⟩
        · rw [decide_eq_false c]
          refine ⟨false, rfl, iteF (no ?_ _ g4)⟩
          unfold isNext
          rw [decide_eq_false c, Bool.and_false]
      · refine iteF (no ?_ _ (Same.refl _))
        have lz : ¬ ws'.length = row.length + 1 := fun e => z (decide_eq_true (by omega))
        unfold isNext
        rw [decide_eq_false lz, Bool.false_and]
    · intro H2 sm l
      refine ⟨D, _, rfl, .inl ⟨SqL.of (lst_str l), fun p hp => ?_⟩⟩
      exact q p _ ((g1.trans sm).trans (same_new hp)) upd_same
end
end K07
namespace K07
open PySem L2 Nm
open C8 (Cal Mak pe_c pe_mk pe_gc)
open RZ (ItzT pi_zipA)
section
variable {P : Program} {w : World} {K : PySem.W.Frag} {mg : Str → Option Value} {base : Heap}
def sp_behind (K : PySem.W.Frag) : Sp := fun vs H Q _ => ∃ (a r : Addr), vs = [.ref a, .ref r] ∧ ∃ rs row, GmAt H a rs ∧ IsG rs ∧ H r = some (.tup (row.map V.str)) ∧ row ∈ rs ∧ ∀ p H', Same H H' → GmAt H' p (behindOf rs row) → Q (.ref p) H'
theorem c_behind (T : Txt K mg) : Cal P w K mg base 8 "behind" (sp_behind K) [] := by
  have C_check_place := c_check_place (P := P) (w := w) (base := base) T
  have sc := sc_behind
  refine cal_of T.d_behind sc (fun _ _ _ _ _ _ us hl => match us, hl with | [_, _], _ => rfl) (fun vs H Q E h => ?_) (fun f cdv A outer s H vs Q E hr h => ?_)
  · obtain ⟨a, r, rfl, _⟩ := h
    rfl
  · obtain ⟨a, r, rfl, h⟩ := h
    refine ⟨_, (pss_cons (ps_expr (pe_c C_check_place hr (by omega) rfl (pa_cons (pv 0) (pa_cons (pv 1) pa_nil))))
  (pss_one (ps_ret (pe_callTy call_tuple_of rfl T.m_tuple (by decide +kernel) (pa_cons (pe_lc (own := [("longer", 2)]) (g := gName 2) rfl sc.nd (pi_tup (pv 0)) (blkOk_by (own := [("longer", 2)]) (N := ["game", "row", "longer"]) (sc := defScope s_behind) (by decide +kernel)) (fun _ _ _ _ _ => (pg_name (i := 2) sc.nd rfl (Or.inl rfl))) (fun _ _ _ _ _ => (pts_one (pt_cmpR (r := rEqD K) (op_eqD hr.units) (pe_slice (r := rSlA K) sl_tupA (pv 2) po_none (po_some (pe_callB (r := Nm.rLenS K) (id := "len") Nm.call_lenS rfl T.m_len (by decide +kernel) (pa_cons (pv 1) pa_nil)))) (pv 1) (nomark _)))) (fun _ _ _ _ _ => (pe_slice (r := rSlA K) sl_tupA (pv 2) (po_some (pe_callB (r := Nm.rLenS K) (id := "len") Nm.call_lenS rfl T.m_len (by decide +kernel) (pa_cons (pv 1) pa_nil))) po_none))) pa_nil))))), ?_⟩
    obtain ⟨rs, row, gm, G, hr, mr, q⟩ := h
    have few := G.few
    refine ⟨_, rfl, _, rfl, a, r, rfl, rs, row, gm, G, hr, mr, fun H1 g1 => ?_⟩
    obtain ⟨xs, ha, pa⟩ := gm.keep (tups_same g1)
    have el := paired_len pa
    have hr1 := g1 _ _ hr
    refine ⟨_, rfl, a, rfl, ⟨_, SqT.of ha⟩, fun D hD => ?_⟩
    refine lcS (walk_tup (K := K) (a := a) (xs := xs)) stays_rw rs (fun l => decide (l.take row.length = row)) (List.drop row.length) el (by omega) (fun H2 g => SqT.of (g _ _ ha)) hD ?_ ?_
    · rintro i x ws H2 H3 Nx hw ⟨rfl, hx⟩ sm no yes
      obtain ⟨ws', hw', y, rfl, hy⟩ := paired_at pa i _ hx
      have e : ws' = ws := Option.some.inj (hw'.symm.trans hw)
      subst e
      refine ⟨rfl, ?_⟩
      have hy2 := sm _ _ hy
      refine ⟨_, rfl, _, rfl, r, _, rfl, .inr (SqT.of (sm _ _ hr1)), _, rfl, sl_takeE (k := row.length) (by rw [List.length_map]) hy2 fun r2 H4 g4 hr2 => ?_⟩
      rw [← List.map_take] at hr2
      have okw := (G.ok _ (List.mem_of_getElem? hw)).2
      refine ⟨_, rfl, rowD (ws'.take row.length), rowD row, dp_row hr2, dp_row (g4 _ _ (sm _ _ hr1)), shaped_rw fun z hz => okw z (List.mem_of_mem_take hz), shaped_rw (G.ok _ mr).2, ?_⟩
      rw [eqv_row]
      by_cases c : ws'.take row.length = row
      · rw [decide_eq_true c]
        refine ⟨true, rfl, iteT ?_⟩
        refine ⟨_, rfl, _, rfl, r, _, rfl, .inr (SqT.of (g4 _ _ (sm _ _ hr1))), _, rfl, ?_⟩
        dsimp only [tNoPart]
        refine sl_dropE (k := row.length) (by rw [List.length_map]) (g4 _ _ hy2) fun r3 H5 g5 hr3 => ?_
        rw [← List.map_drop] at hr3
        exact yes (decide_eq_true c) _ _ (g4.trans g5) ⟨r3, rfl, hr3⟩
      · rw [decide_eq_false c]
        exact ⟨false, rfl, iteF (no (decide_eq_false c) _ g4)⟩
    · intro H2 sm ⟨acc, hacc, pacc⟩
      refine ⟨D, _, rfl, .inl ⟨SqL.of hacc, fun p hp => ?_⟩⟩
      have g3 := same_new (o := .tup acc) hp
      exact q p _ ((g1.trans sm).trans g3) ⟨acc, upd_same, paired_mono (fun _ _ => stays_rw _ _ _ _ (tups_same g3)) pacc⟩
end
end K07
namespace K07
open PySem L2 Nm
open C8 (Cal Mak pe_c pe_mk pe_gc)
open RZ (ItzT pi_zipA)
section
variable {P : Program} {w : World} {K : PySem.W.Frag} {mg : Str → Option Value} {base : Heap}
def sp__law_words (K : PySem.W.Frag) : Sp := fun vs H Q _ => ∃ (a r : Addr), vs = [.ref a, .ref r] ∧ ∃ rs row, GmAt H a rs ∧ IsG rs ∧ H r = some (.tup (row.map V.str)) ∧ (∀ z ∈ row, wordOk z) ∧ rs.length ≤ 600 ∧ ∀ p H', Same H H' → H' p = some (.lst ((wordsAt rs row).map V.str)) → Q (.ref p) H'
theorem c__law_words (T : Txt K mg) : Cal P w K mg base 1 "_law_words" (sp__law_words K) [] := by
  have sc := sc__law_words
  refine cal_of T.d__law_words sc (fun _ _ _ _ _ _ us hl => match us, hl with | [_, _], _ => rfl) (fun vs H Q E h => ?_) (fun f cdv A outer s H vs Q E hr h => ?_)
  · obtain ⟨a, r, rfl, _⟩ := h
    rfl
  · obtain ⟨a, r, rfl, h⟩ := h
    refine ⟨_, (pss_one (ps_ret (pe_callB Nm.cr_sortedSA rfl T.m_sorted (by decide +kernel) (pa_cons (pe_lc (own := [("other", 2)]) (g := gName 2) rfl sc.nd (pi_tup (pv 0)) (blkOk_by (own := [("other", 2)]) (N := ["game", "row", "other"]) (sc := defScope s__law_words) (by decide +kernel)) (fun _ _ _ _ _ => (pg_name (i := 2) sc.nd rfl (Or.inl rfl))) (fun _ _ _ _ _ => (pts_one (PW.pt (pw_and (pt_cmpR op_eq (pe_callB (r := Nm.rLenS K) (id := "len") Nm.call_lenS rfl T.m_len (by decide +kernel) (pa_cons (pv 2) pa_nil)) (pe_op op_add (pe_callB (r := Nm.rLenS K) (id := "len") Nm.call_lenS rfl T.m_len (by decide +kernel) (pa_cons (pv 1) pa_nil)) pe_int) (nomark _)) (pw_and1 (pt_cmpR (r := rEqD K) (op_eqD hr.units) (pe_slice (r := rSlA K) sl_tupA (pv 2) po_none (po_some (pe_un un_neg pe_int))) (pv 1) (nomark _))))))) (fun _ _ _ _ _ => (pe_ix (r := rIxT K) ix_tup (pv 2) (pe_un un_neg pe_int) (fun _ _ => rfl)))) pa_nil)))), ?_⟩
    obtain ⟨rs, row, ⟨xs, ha, pa⟩, G, hr, okr, few, q⟩ := h
    have el := paired_len pa
    refine ⟨_, rfl, a, rfl, ⟨_, SqT.of ha⟩, fun D hD => ?_⟩
    refine lcS (walk_tup (K := K) (a := a) (xs := xs)) stays_str rs (isNext row) lastW el (by omega) (fun H2 g => SqT.of (g _ _ ha)) hD ?_ ?_
    · rintro i x ws H2 H3 Nx hw ⟨rfl, hx⟩ sm no yes
      obtain ⟨ws', hw', y, rfl, hy⟩ := paired_at pa i _ hx
      have e : ws' = ws := Option.some.inj (hw'.symm.trans hw)
      subst e
      refine ⟨rfl, ?_⟩
      have hy2 := sm _ _ hy
      refine ⟨_, rfl, y, _, rfl, .inr (SqT.of hy2), _, rfl, r, _, rfl, .inr (SqT.of (sm _ _ hr)), _, _, rfl, rfl, rfl, _, rfl, ?_⟩
      rw [List.length_map, List.length_map, decI]
      refine ite2 (fun z => ?_) (fun z => ?_)
      · have lz : ws'.length = row.length + 1 := by
          have := of_decide_eq_true z
          omega
        refine ⟨_, rfl, 1, rfl, _, rfl, sl_last hy2 fun r2 H4 g4 hr2 => ?_⟩
        rw [← List.map_dropLast] at hr2
        refine ⟨_, rfl, rowD ws'.dropLast, rowD row, dp_row hr2, dp_row (g4 _ _ (sm _ _ hr)), ?_⟩
        have okw := (G.ok _ (List.mem_of_getElem? hw)).2
        refine ⟨shaped_rw fun z hz => okw z (List.dropLast_subset _ hz), shaped_rw okr, ?_⟩
        rw [eqv_row]
        by_cases c : ws'.dropLast = row
        · rw [decide_eq_true c]
          refine ⟨true, rfl, iteT ?_⟩
          have nx : isNext row ws' = true := by
            unfold isNext
            rw [decide_eq_true lz, decide_eq_true c]
            rfl
          have ne : ws' ≠ [] := fun e => by
            rw [e] at lz
            simp at lz
          exact ⟨_, rfl, 1, rfl, y, _, -1, _, rfl, rfl, SqT.of (g4 _ _ hy2), at_lastW ne, yes nx _ _ g4 rfl⟩
        · rw [decide_eq_false c]
          refine ⟨false, rfl, iteF (no ?_ _ g4)⟩
          unfold isNext
          rw [decide_eq_false c, Bool.and_false]
      · refine iteF (no ?_ _ (Same.refl _))
        have lz : ¬ ws'.length = row.length + 1 := fun e => z (decide_eq_true (by omega))
        unfold isNext
        rw [decide_eq_false lz, Bool.false_and]
    · intro H2 sm l
      have len : (wordsAt rs row).length ≤ 1000 := by
        unfold wordsAt
        rw [List.length_map]
        exact Nat.le_trans (List.length_filter_le _ _) (Nat.le_trans few (by decide))
      refine ⟨D, _, rfl, SqL.of (lst_str l), len, fun ys p pm srt hp => ?_⟩
      have e : ys = wordsAt rs row := by
        have up := words_up G.up row
        refine rise_one ((List.Pairwise.and (sorted_pw srt) (pm.nodup_iff.mpr (before_nodup up))).imp fun ⟨a, b⟩ => before_tot a b) up fun z => pm.mem_iff
      rw [e]
      exact q p _ (sm.trans (same_new hp)) upd_same
end
end K07
namespace K07
open PySem L2 Nm
open C8 (Cal Mak pe_c pe_mk pe_gc)
open RZ (ItzT pi_zipA)
section
variable {P : Program} {w : World} {K : PySem.W.Frag} {mg : Str → Option Value} {base : Heap}
def sp_mover (K : PySem.W.Frag) : Sp := fun vs H Q _ => ∃ (r : Addr) (row : List Str), vs = [.ref r] ∧ H r = some (.tup (row.map V.str)) ∧ rwOk row ∧ ∀ H', Same H H' → Q (.int ((row.length : Int) % 2)) H'
theorem c_mover (T : Txt K mg) : Cal P w K mg base 5 "mover" (sp_mover K) [] := by
  have C_is_row := c_is_row (P := P) (w := w) (base := base) T
  have sc := sc_mover
  refine cal_of T.d_mover sc (fun _ _ _ _ _ _ us hl => match us, hl with | [_], _ => rfl) (fun vs H Q E h => ?_) (fun f cdv A outer s H vs Q E hr h => ?_)
  · obtain ⟨r, row, rfl, _⟩ := h
    rfl
  · obtain ⟨r, row, rfl, h⟩ := h
    refine ⟨_, (pss_cons (ps_if (pt_not (pt_val (pe_c C_is_row hr (by omega) rfl (pa_cons (pv 0) pa_nil)))) (pss_one ps_never) pss_nil)
  (pss_one (ps_ret (pe_op op_mod (pe_callB (r := Nm.rLenS K) (id := "len") Nm.call_lenS rfl T.m_len (by decide +kernel) (pa_cons (pv 0) pa_nil)) pe_int)))), ?_⟩
    obtain ⟨hr', ok, q⟩ := h
    refine ⟨_, rfl, r, row, rfl, hr', ok, fun H1 g1 => ⟨true, rfl, iteF ⟨_, rfl, r, _, rfl, .inr (SqT.of (g1 _ _ hr')), _, 2, rfl, rfl, (by show (0 : Int) < 2; decide), ?_⟩⟩⟩
    rw [List.length_map]
    exact q H1 g1
end
end K07
namespace K07
open PySem L2 Nm
open C8 (Cal Mak pe_c pe_mk pe_gc)
open RZ (ItzT pi_zipA)
/-- the rows behind each row by one word, in lists of their own -/
def NxAt (H : Hp) (D : Addr) (rs : List (List Str)) : Prop := ∃ ents : List (List Key × V), H D = some (.dT ents) ∧ ∀ k ∈ rs, ∃ q zs, valV ents (keyRow k) = some (.ref q) ∧ H q = some (.lst zs) ∧ Paired (RwAt H) zs (nexts rs k)
theorem NxAt.same {H H' : Hp} {D : Addr} {rs : List (List Str)} (h : NxAt H D rs) (g : Same H H') : NxAt H' D rs := by
  obtain ⟨ents, h1, h2⟩ := h
  refine ⟨ents, g _ _ h1, fun k hk => ?_⟩
  obtain ⟨q, zs, e1, e2, e3⟩ := h2 k hk
  exact ⟨q, zs, e1, g _ _ e2, paired_mono (fun _ _ => stays_rw _ _ _ _ (tups_same g)) e3⟩
theorem next_drop {w : Str} {k l : List Str} (h : isNext k l = true) : k = l.dropLast := by
  obtain ⟨w, rfl⟩ := isNext_iff.mp h
  rw [List.dropLast_concat]
section
variable {P : Program} {w : World} {K : PySem.W.Frag} {mg : Str → Option Value} {base : Heap}
def sp_next_rows (K : PySem.W.Frag) : Sp := fun vs H Q _ => ∃ (a : Addr), vs = [.ref a] ∧ ∃ rs, GmAt H a rs ∧ IsG rs ∧ ∀ H' D, NxAt H' D rs → Same H H' → Q (.ref D) H'
theorem c_next_rows (T : Txt K mg) : Cal P w K mg base 1 "next_rows" (sp_next_rows K) [] := by
  have sc := sc_next_rows
  refine cal_of T.d_next_rows sc (fun _ _ _ _ _ _ us hl => match us, hl with | [_], _ => rfl) (fun vs H Q E h => ?_) (fun f cdv A outer s H vs Q E hr h => ?_)
  · obtain ⟨a, rfl, _⟩ := h
    rfl
  · obtain ⟨a, rfl, h⟩ := h
    refine ⟨_, (pss_cons (Nm.ps_setDcT (i := 1) (own := [("row", 2)]) (g := gName 2) rfl sc.nd (hu_of hr) rfl rfl (Nm.swd_true rfl rfl rfl (by decide +kernel)) (pi_tup (pv 0)) (blkOk_by (own := [("row", 2)]) (N := ["game", "found", "row"]) (sc := defScope s_next_rows) (by decide +kernel)) (fun _ _ _ _ _ => (pg_name (i := 2) sc.nd rfl (Or.inl rfl))) (fun _ _ _ _ _ => (pv 2)) (fun _ _ _ _ _ => (pe_lst pa_nil)))
  (pss_cons (ps_for PassesOwn.never rfl (pi_tup (pe_slice sl_tupA (pv 0) (po_some pe_int) po_none)) (pg_name (i := 2) sc.nd rfl (Or.inl rfl)) (pss_one (ps_expr (pe_bm PySem.F.plainAttrs_list PySem.F.slot_list_append PySem.F.type_list_append mt_append (pe_dget (hu_of hr) (pv 1) (pe_slice sl_tupA (pv 2) po_none (po_some (pe_un un_neg pe_int))) (fun _ _ => rfl)) (pa_cons (pv 2) pa_nil)))))
  (pss_one (ps_ret (pv 1))))), ?_⟩
    obtain ⟨rs, gm, G, q⟩ := h
    obtain ⟨xs, ha, pa⟩ := id gm
    have el := paired_len pa
    have few := G.few
    obtain ⟨rt, hrt⟩ := G.head
    have big : (100000 : Nat) < PySem.sizeLine := by decide
    refine ⟨_, rfl, a, rfl, ⟨_, SqT.of ha⟩, fun D hD => ?_⟩
    refine dcT_tup (xs := xs) (fun i H1 => Same H H1 ∧ ∃ (ents : List (List Key × V)) (ks : List (List Str)) (addr : List Str → Addr), H1 D = some (.dT ents) ∧ ents.length ≤ i ∧ RDict (fun y q => y = V.ref q) ents ks addr ∧ (∀ z, z ∈ ks ↔ z ∈ rs.take i) ∧
        (∀ k ∈ ks, H1 (addr k) = some (.lst []) ∧ H (addr k) = none ∧ addr k ≠ D) ∧ ∀ k ∈ ks, ∀ k' ∈ ks, addr k = addr k' → k = k')
      ⟨same_new hD, [], [], fun _ => D, upd_same, Nat.le_refl _, ⟨rfl, .nil, fun e he => absurd he (List.not_mem_nil)⟩, fun z => by simp, fun k hk => absurd hk (List.not_mem_nil), fun k hk => absurd hk (List.not_mem_nil)⟩ (fun i H1 _ p => SqT.of (p.1 _ _ ha)) ?_ ?_
    · rintro i x H1 hi ⟨sm, ents, ks, addr, hd1, le, dd, mem, each, inj⟩
      obtain ⟨ws, hw, r, rfl, hr⟩ := paired_at pa i x hi
      have li := (List.getElem?_eq_some_iff.mp hi).1
      refine ⟨rfl, _, rfl, nought, fun q hq => ⟨ents, keyRow ws, r, rfl, same_new hq _ _ hd1, by rw [kV_row]; exact same_new hq _ _ (sm _ _ hr), by omega, ?_⟩⟩
      have nqD : q ≠ D := fun e => by
        rw [e, hd1] at hq
        cases hq
      have old : ∀ k ∈ ks, addr k ≠ q := fun k hk e => by
        have z := (each k hk).1
        rw [e, hq] at z
        cases z
      refine ⟨same_mut (sm.trans (same_new hq)) hD, _, plusR ks ws, _, upd_same, ?_, dd.put ws (y := .ref q) (c := q) rfl, fun z => ?_, fun k hk => ?_, fun k hk k' hk' e => ?_⟩
      · have := length_putK ents (keyRow ws) (V.ref q)
        omega
      · rw [mem_plusR, mem z, take_one hw, List.mem_append, List.mem_singleton]
      · by_cases c : k = ws
        · subst c
          rw [if_pos rfl, upd_ne nqD, upd_same]
          exact ⟨rfl, sm.free hq, nqD⟩
        · rw [if_neg c]
          have hk' : k ∈ ks := (mem_plusR.mp hk).resolve_right c
          obtain ⟨e1, e2, e3⟩ := each k hk'
          rw [upd_ne e3, upd_ne (old k hk')]
          exact ⟨e1, e2, e3⟩
      · have e : (if k = ws then q else addr k) = if k' = ws then q else addr k' := e
        by_cases c : k = ws
        · by_cases c' : k' = ws
          · rw [c, c']
          · rw [if_pos c, if_neg c'] at e
            exact absurd e.symm (old k' ((mem_plusR.mp hk').resolve_right c'))
        · by_cases c' : k' = ws
          · rw [if_neg c, if_pos c'] at e
            exact absurd e (old k ((mem_plusR.mp hk).resolve_right c))
          · rw [if_neg c, if_neg c'] at e
            exact inj k ((mem_plusR.mp hk).resolve_right c) k' ((mem_plusR.mp hk').resolve_right c') e
    · rintro H1 ⟨sm, ents, ks, addr, hd1, le, dd, mem, each, inj⟩
      rw [el, List.take_length] at mem
      refine ⟨_, rfl, 1, rfl, ?_⟩
      dsimp only [tNoPart]
      refine sl_from1 (sm _ _ ha) fun b H2 g2 hb => ?_
      refine ⟨b, rfl, ⟨_, SqT.of hb⟩, ?_⟩
      have pb := paired_drop pa 1
      refine for_it (tb := tDrop _) (D := { nx := tRet (tVar 1) { nx := fun _ H' => Q .non H', rt := Q }, rt := Q }) (walk_tup (K := K) (a := b) (xs := xs.drop 1)) (fun i σ H3 => ∃ v2, σ = [some (.ref a), some (.ref D), v2] ∧ Same H H3 ∧ H3 D = some (.dT ents) ∧ H3 b = some (.tup (xs.drop 1)) ∧ ∀ k ∈ ks, ∃ zs, H3 (addr k) = some (.lst zs) ∧ zs.length ≤ i ∧ Paired (RwAt H3) zs (((rs.drop 1).take i).filter (isNext k)))
        ⟨none, rfl, sm.trans g2, g2 _ _ hd1, hb, fun k hk => ⟨[], g2 _ _ (each k hk).1, Nat.le_refl _, .nil⟩⟩ (fun i σ H3 _ ⟨_, _, _, _, h, _⟩ => SqT.of h) ?_ ?_
      · rintro i x σ H3 H4 hi ⟨v2, rfl, g3, hd3, hb3, lists⟩ ⟨rfl, hx⟩
        obtain ⟨w, hw, r, rfl, hr⟩ := paired_at pb i x hx
        have mw : w ∈ rs := List.mem_of_mem_drop (List.mem_of_getElem? hw)
        have li : i < 600 := by
          have := (List.getElem?_eq_some_iff.mp hw).1
          rw [List.length_drop] at this
          omega
        have mp : w.dropLast ∈ ks := (mem _).mpr (G.pre w mw)
        obtain ⟨y, hy, rfl⟩ := dd.get mp
        have hr3 := g3 _ _ hr
        refine ⟨_, rfl, _, rfl, 1, rfl, _, rfl, sl_last hr3 fun r2 H5 g5 hr2 => ?_⟩
        obtain ⟨zs, hz, lz, pz⟩ := lists _ mp
        have dg : DGet H5 D (.ref r2) (some (.ref (addr w.dropLast))) := hy ▸ DGet.t (g5 _ _ hd3) (by rw [kV_row, List.map_dropLast]; exact hr2)
        refine ⟨D, _, rfl, dg, .inl ⟨rfl, _, SqL.of (g5 _ _ hz)⟩, _, rfl, addr w.dropLast, zs, .ref r, rfl, rfl, g5 _ _ hz, by omega, ?_⟩
        have tl := tups_lst (vs := zs ++ [V.ref r]) (g5 _ _ hz)
        have tk : Tups H4 (upd H5 (addr w.dropLast) (.lst (zs ++ [V.ref r]))) := fun c us hc => tl _ _ (g5 _ _ hc)
        refine ⟨_, rfl, same_mut (g3.trans g5) (each _ mp).2.1, ?_, tk _ _ hb3, fun k hk => ?_⟩
        · rw [upd_ne (fun e => (each _ mp).2.2 e.symm)]
          exact g5 _ _ hd3
        · have e1 : ((rs.drop 1).take (i + 1)).filter (isNext k) = ((rs.drop 1).take i).filter (isNext k) ++ [w].filter (isNext k) := by
            rw [take_one hw, List.filter_append]
          rw [e1]
          by_cases c : k = w.dropLast
          · subst c
            have mt : w ∈ rt := by
              have z := List.mem_of_getElem? hw
              rw [hrt, List.drop_one, List.tail_cons] at z
              exact z
            have w0 : w ≠ [] := fun e => by
              have up := G.up
              rw [hrt] at up
              have z := (List.pairwise_cons.mp up).1 w mt
              rw [e] at z
              unfold bef at z
              rw [rowLt_irr] at z
              cases z
            have nx : isNext w.dropLast w = true := isNext_iff.mpr ⟨w.getLast w0, (List.dropLast_concat_getLast w0).symm⟩
            rw [List.filter_cons_of_pos nx, List.filter_nil]
            exact ⟨_, upd_same, by rw [List.length_append, List.length_singleton]; omega, paired_snoc (paired_mono (fun _ _ => stays_rw _ _ _ _ tk) pz) ⟨r, rfl, tk _ _ hr3⟩⟩
          · obtain ⟨us, hu, lu, pu⟩ := lists k hk
            have nx : ¬ isNext k w = true := fun z => c (next_drop (w := Str.empty) z)
            rw [List.filter_cons_of_neg nx, List.filter_nil, List.append_nil]
            refine ⟨us, ?_, by omega, paired_mono (fun _ _ => stays_rw _ _ _ _ tk) pu⟩
            rw [upd_ne (fun e => c (inj k hk _ mp e))]
            exact g5 _ _ hu
      · rintro σ H3 ⟨v2, rfl, g3, hd3, hb3, lists⟩
        refine ⟨_, rfl, q H3 D ⟨ents, hd3, fun k hk => ?_⟩ g3⟩
        obtain ⟨zs, hz, lz, pz⟩ := lists k ((mem k).mpr hk)
        obtain ⟨y, hy, rfl⟩ := dd.get ((mem k).mpr hk)
        refine ⟨addr k, zs, hy, hz, ?_⟩
        have ll : (xs.drop 1).length = (rs.drop 1).length := by rw [List.length_drop, List.length_drop, el]
        rw [ll, List.take_length] at pz
        have e : nexts rs k = (rs.drop 1).filter (isNext k) := by
          unfold nexts
          rw [hrt, List.drop_one, List.tail_cons]
          exact List.filter_cons_of_neg (by unfold isNext; rw [decide_eq_false (by show ¬ (0 = k.length + 1); omega), Bool.false_and]; exact Bool.false_ne_true)
        rw [e]
        exact pz
end
end K07
namespace K07
open PySem L2 Nm
open C8 (Cal Mak pe_c pe_mk pe_gc)
open RZ (ItzT pi_zipA)
/-- what is told of a row: does the one who moves win, in how many words -/
def TwAt (H : Hp) (y : V) (t : Bool × Int) : Prop := ∃ r, y = .ref r ∧ H r = some (.tup [.bl t.1, .int t.2])
theorem stays_tw : Stays TwAt := fun _ _ _ _ t ⟨r, e, h⟩ => ⟨r, e, t _ _ h⟩
def VdAt (H : Hp) (D : Addr) (rs : List (List Str)) : Prop := ∃ ents : List (List Key × V), H D = some (.dT ents) ∧ ∀ k ∈ rs, ∃ y, valV ents (keyRow k) = some y ∧ TwAt H y (val rs k)
theorem VdAt.same {H H' : Hp} {D : Addr} {rs : List (List Str)} (h : VdAt H D rs) (g : Same H H') : VdAt H' D rs := by
  obtain ⟨ents, h1, h2⟩ := h
  refine ⟨ents, g _ _ h1, fun k hk => ?_⟩
  obtain ⟨y, e1, e2⟩ := h2 k hk
  exact ⟨y, e1, stays_tw _ _ _ _ (tups_same g) e2⟩
theorem paired_rev {α β : Type} {R : α → β → Prop} : ∀ {xs : List α} {ys : List β}, Paired R xs ys → Paired R xs.reverse ys.reverse
  | _, _, .nil => .nil
  | _, _, .cons h t => by
    rw [List.reverse_cons, List.reverse_cons]
    exact paired_app (paired_rev t) (.cons h .nil)
/-- the rows behind a row come later, so they are solved before -/
theorem nexts_done {rs : List (List Str)} (up : rs.Pairwise bef) {i : Nat} {row l : List Str} (hi : rs.reverse[i]? = some row) (hl : l ∈ nexts rs row) : l ∈ rs.reverse.take i := by
  obtain ⟨ml, w, rfl⟩ := mem_nexts.mp hl
  have b : bef row (row ++ [w]) := bef_pre (List.prefix_append _ _) fun e => by
    have := congrArg List.length e
    rw [List.length_append, List.length_singleton] at this
    omega
  have m : row ++ [w] ∈ rs.reverse := List.mem_reverse.mpr ml
  have pw : rs.reverse.Pairwise fun x y => bef y x := List.pairwise_reverse.mpr up
  rw [← List.take_append_drop i rs.reverse] at m pw
  rcases List.mem_append.mp m with h | h
  · exact h
  · have e : rs.reverse.drop i = row :: rs.reverse.drop (i + 1) := by
      obtain ⟨hlt, hv⟩ := List.getElem?_eq_some_iff.mp hi
      rw [List.drop_eq_getElem_cons hlt, hv]
    rw [e] at h pw
    rcases List.mem_cons.mp h with z | z
    · have := congrArg List.length z
      rw [List.length_append, List.length_singleton] at this
      omega
    · have c := (List.pairwise_cons.mp (List.pairwise_append.mp pw).2.1).1 _ z
      exact absurd b (bef_not c)
section
variable {P : Program} {w : World} {K : PySem.W.Frag} {mg : Str → Option Value} {base : Heap}
def sp_solved (K : PySem.W.Frag) : Sp := fun vs H Q _ => ∃ (a : Addr), vs = [.ref a] ∧ ∃ rs, GmAt H a rs ∧ IsG rs ∧ ∀ H' D, VdAt H' D rs → Same H H' → Q (.ref D) H'
theorem c_solved (T : Txt K mg) : Cal P w K mg base 2 "solved" (sp_solved K) [] := by
  have C_next_rows := c_next_rows (P := P) (w := w) (base := base) T
  have sc := sc_solved
  refine cal_of T.d_solved sc (fun _ _ _ _ _ _ us hl => match us, hl with | [_], _ => rfl) (fun vs H Q E h => ?_) (fun f cdv A outer s H vs Q E hr h => ?_)
  · obtain ⟨a, rfl, _⟩ := h
    rfl
  · obtain ⟨a, rfl, h⟩ := h
    refine ⟨_, (pss_cons (ps_set (i := 1) sc.nd rfl (Or.inl rfl) (pe_c C_next_rows hr (by omega) rfl (pa_cons (pv 0) pa_nil)))
  (pss_cons (ps_set (i := 2) sc.nd rfl (Or.inr rfl) pe_dnewT)
  (pss_cons (ps_for PassesOwn.never rfl (pi_tup (Nm.pe_revT (pv 0))) (pg_name (i := 3) sc.nd rfl (Or.inl rfl)) (pss_cons (ps_setLc (i := 4) (own := [("longer", 6)]) (g := gName 6) rfl sc.nd rfl rfl (sw_true rfl rfl rfl (by decide +kernel)) (pi_list (pe_dget (hu_of hr) (pv 1) (pv 3) (fun _ _ => rfl))) (blkOk_by (own := [("longer", 6)]) (N := ["game", "after", "verdicts", "row", "told", "winning", "longer", "other_wins", "left", "_"]) (sc := defScope s_solved) (by decide +kernel)) (fun _ _ _ _ _ => (pg_name (i := 6) sc.nd rfl (Or.inl rfl))) (fun _ _ _ _ _ => pts_nil) (fun _ _ _ _ _ => (pe_dget (hu_of hr) (pv 2) (pv 6) (fun _ _ => rfl))))
  (pss_cons (ps_setLc (i := 5) (own := [("other_wins", 7), ("left", 8)]) (g := gTup K 2 (gCons (gName 7) (gCons (gName 8) gNil))) rfl sc.nd rfl rfl (sw_true rfl rfl rfl (by decide +kernel)) (pi_list (pv 4)) (blkOk_by (own := [("other_wins", 7), ("left", 8)]) (N := ["game", "after", "verdicts", "row", "told", "winning", "longer", "other_wins", "left", "_"]) (sc := defScope s_solved) (by decide +kernel)) (fun _ _ _ _ _ => (pg_tup rfl (pgs_cons (pg_name (i := 7) sc.nd rfl (Or.inl rfl)) (pgs_cons (pg_name (i := 8) sc.nd rfl (Or.inl rfl)) pgs_nil)))) (fun _ _ _ _ _ => (pts_one (pt_not (pt_val (pv 7))))) (fun _ _ _ _ _ => (pv 8)))
  (pss_one (ps_if (pt_truth (pv 5) (fun _ => rfl)) (pss_one (ps_dput (hu_of hr) (pv 2) (pv 3) (pe_tup (pa_cons pe_bl (pa_cons (pe_op op_add pe_int (pe_callB (cr_min rfl) rfl T.m_min (by decide +kernel) (pa_cons (pv 5) pa_nil))) pa_nil))) rfl)) (pss_one (ps_dput (hu_of hr) (pv 2) (pv 3) (pe_tup (pa_cons pe_bl (pa_cons (pe_callBK (id := "max") (Nm.cr_maxDef rfl hr.units) rfl T.m_max (by decide +kernel) (pa_cons (pe_lc (own := [("_", 9), ("left", 8)]) (g := gTup K 2 (gCons (gName 9) (gCons (gName 8) gNil))) rfl sc.nd (pi_list (pv 4)) (blkOk_by (own := [("_", 9), ("left", 8)]) (N := ["game", "after", "verdicts", "row", "told", "winning", "longer", "other_wins", "left", "_"]) (sc := defScope s_solved) (by decide +kernel)) (fun _ _ _ _ _ => (pg_tup rfl (pgs_cons (pg_name (i := 9) sc.nd rfl (Or.inl rfl)) (pgs_cons (pg_name (i := 8) sc.nd rfl (Or.inl rfl)) pgs_nil)))) (fun _ _ _ _ _ => pts_nil) (fun _ _ _ _ _ => (pe_op op_add pe_int (pv 8)))) pa_nil) (pk_cons pe_int pk_nil)) pa_nil))) rfl)))))))
  (pss_one (ps_ret (pv 2)))))), ?_⟩
    obtain ⟨rs, gm, G, q⟩ := h
    have few := G.few
    have big : (100000 : Nat) < PySem.sizeLine := by decide
    refine ⟨_, rfl, a, rfl, rs, gm, G, fun H1 A nx1 g1 => ?_⟩
    obtain ⟨xs, ha, pa⟩ := gm.keep (tups_same g1)
    have el := paired_len pa
    have ne : xs ≠ [] := fun e => by
      have := List.length_pos_of_mem G.nil
      rw [e] at el
      simp at el
      omega
    refine fun D hD => ?_
    have g2 := same_new (o := .dT []) hD
    refine ⟨_, rfl, a, xs, rfl, SqT.of (g2 _ _ ha), ne, fun b hb => ?_⟩
    have g3 := same_new (o := .tup xs.reverse) hb
    have g13 := g2.trans g3
    refine ⟨b, rfl, ⟨_, SqT.of upd_same⟩, ?_⟩
    have hb0 : upd (upd H1 D (.dT [])) b (.tup xs.reverse) b = some (.tup xs.reverse) := upd_same
    have hD0 : upd (upd H1 D (.dT [])) b (.tup xs.reverse) D = some (.dT []) := g3 _ _ upd_same
    generalize upd (upd H1 D (.dT [])) b (.tup xs.reverse) = H2 at g13 hb0 hD0
    have pr := paired_rev pa
    refine for_it (walk_tup (K := K) (a := b) (xs := xs.reverse)) (fun i σ H3 => ∃ v3 v4 v5 v6 v7 v8 v9, ∃ (ents : List (List Key × V)) (ks : List (List Str)), σ = [some (.ref a), some (.ref A), some (.ref D), v3, v4, v5, v6, v7, v8, v9] ∧ Same H1 H3 ∧ H3 b = some (.tup xs.reverse) ∧ H3 D = some (.dT ents) ∧ ents.length ≤ i ∧ ents.map (·.1) = ks.map keyRow ∧ ks.Nodup ∧ (∀ z, z ∈ ks ↔ z ∈ rs.reverse.take i) ∧ ∀ k ∈ ks, ∃ y, valV ents (keyRow k) = some y ∧ TwAt H3 y (val rs k))
      ⟨none, none, none, none, none, none, none, [], [], rfl, g13, hb0, hD0, Nat.le_refl _, rfl, .nil, fun z => by simp, fun k hk => absurd hk (List.not_mem_nil)⟩ (fun i σ H3 _ ⟨_, _, _, _, _, _, _, _, _, _, _, h, _⟩ => SqT.of h) ?_ ?_
    · rintro i x σ H3 H4 hi ⟨v3, v4, v5, v6, v7, v8, v9, ents, ks, rfl, g, hb3, hD3, le3, hk3, nd3, mem3, vals3⟩ ⟨rfl, hx⟩
      obtain ⟨row, hrow, r, rfl, hr1⟩ := paired_at pr i x hx
      have mrow : row ∈ rs := List.mem_reverse.mp (List.mem_of_getElem? hrow)
      have lrow := (G.ok row mrow).1
      have lrev : xs.reverse.length = xs.length := List.length_reverse ..
      obtain ⟨entA, hA, nxs⟩ := nx1.same g
      obtain ⟨qa, zs, eA, hz, pz⟩ := nxs row mrow
      have lz := paired_len pz
      have ln : (nexts rs row).length ≤ 600 := Nat.le_trans (List.length_filter_le _ _) few
      have hr3 := g _ _ hr1
      have kr : ∀ {H5 : Hp} {r5 : Addr} {ws : List Str}, H5 r5 = some (.tup (ws.map V.str)) → H5 r5 = some (.tup ((keyRow ws).map kV)) := fun h => by rw [kV_row]; exact h
      -- what is told of the rows behind
      refine ⟨_, rfl, _, rfl, A, .ref qa, rfl, eA ▸ DGet.t hA (kr hr3), qa, rfl, ⟨_, SqL.of hz⟩, fun T1 hT1 => ?_⟩
      refine lcS (walk_list (K := K) (a := qa) (xs := zs)) stays_tw (nexts rs row) (fun _ => true) (val rs) lz (by omega) (fun H5 g5 => SqL.of (g5 _ _ hz)) hT1 ?_ ?_
      · rintro i2 x2 l H5 H6 Nx hl ⟨rfl, hx2⟩ sm _ yes
        obtain ⟨l', hl', rl, rfl, hrl⟩ := paired_at pz i2 _ hx2
        have e : l' = l := Option.some.inj (hl'.symm.trans hl)
        subst e
        have ml := nexts_done G.up hrow (List.mem_of_getElem? hl)
        obtain ⟨y, hy, tw⟩ := vals3 l' ((mem3 l').mpr ml)
        refine ⟨rfl, ?_⟩
        exact ⟨_, rfl, _, rfl, D, y, rfl, hy ▸ DGet.t (sm _ _ hD3) (kr (sm _ _ hrl)), yes rfl _ _ (Same.refl _) (stays_tw _ _ _ _ (tups_same sm) tw)⟩
      intro H5 g5 l5
      rw [filter_all] at l5
      obtain ⟨us, hT5, pu⟩ := l5
      have lu : us.length = (nexts rs row).length := by rw [paired_len pu, List.length_map]
      generalize hto : (nexts rs row).map (val rs) = told at pu
      have lt : told.length ≤ 600 := by rw [← hto, List.length_map]; exact ln
      have lut : us.length = told.length := paired_len pu
      have pos : ∀ t ∈ told, 0 ≤ t.2 := fun t ht => by
        rw [← hto] at ht
        obtain ⟨l, _, rfl⟩ := List.mem_map.mp ht
        exact val_pos rs l
      -- the winning words
      refine ⟨_, rfl, T1, rfl, ⟨_, SqL.of hT5⟩, fun W1 hW1 => ?_⟩
      refine lcS (walk_list (K := K) (a := T1) (xs := us)) stays_int told (fun t => !t.1) (fun t => t.2) lut (by omega) (fun H6 g6 => SqL.of (g6 _ _ hT5)) hW1 ?_ ?_
      · rintro i2 x2 t H6 H7 Nx ht ⟨rfl, hx2⟩ sm no yes
        obtain ⟨t', ht', rt, rfl, hrt⟩ := paired_at pu i2 _ hx2
        have e : t' = t := Option.some.inj (ht'.symm.trans ht)
        subst e
        refine ⟨rt, [.bl t'.1, .int t'.2], rfl, SqT.of (sm _ _ hrt), rfl, _, _, rfl, _, _, rfl, rfl, rfl, ?_⟩
        refine ⟨_, rfl, t'.1, rfl, ?_⟩
        cases c : t'.1 with
        | true => exact iteF (no (by rw [c]; rfl) _ (Same.refl _))
        | false => exact iteT ⟨_, rfl, yes (by rw [c]; rfl) _ _ (Same.refl _) rfl⟩
      intro H6 g6 l6
      obtain ⟨ws, hW6, pw⟩ := l6
      rw [ints_vs pw] at hW6
      have g56 := g5.trans g6
      have hD6 := g56 _ _ hD3
      have hr6 := g56 _ _ hr3
      have done : ∀ (H7 : Hp) (y : V), Same H6 H7 → TwAt H7 y (val rs row) → ∃ (ents' : List (List Key × V)) (ks' : List (List Str)), Same H1 (upd H7 D (.dT (putK ents (keyRow row) y))) ∧ upd H7 D (.dT (putK ents (keyRow row) y)) b = some (.tup xs.reverse) ∧ upd H7 D (.dT (putK ents (keyRow row) y)) D = some (.dT ents') ∧ ents'.length ≤ i + 1 ∧ ents'.map (·.1) = ks'.map keyRow ∧ ks'.Nodup ∧ (∀ z, z ∈ ks' ↔ z ∈ rs.reverse.take (i + 1)) ∧ ∀ k ∈ ks', ∃ y', valV ents' (keyRow k) = some y' ∧ TwAt (upd H7 D (.dT (putK ents (keyRow row) y))) y' (val rs k) := fun H7 y g7 tw => by
        have g37 := g56.trans g7
        have hD7 := g37 _ _ hD3
        have td := tups_dT (vs := putK ents (keyRow row) y) hD7
        refine ⟨putK ents (keyRow row) y, plusR ks row, same_mut (g.trans g37) hD, td _ _ (g37 _ _ hb3), upd_same, ?_, keys_put hk3 nd3 _ _, plusR_nd nd3 _, fun z => ?_, fun k hk => ?_⟩
        · have := length_putK ents (keyRow row) y
          omega
        · rw [mem_plusR, mem3 z, take_one hrow, List.mem_append, List.mem_singleton]
        · by_cases c : k = row
          · subst c
            exact ⟨y, (valV_put ents (keyRow k) (keyRow k) y).trans (if_pos rfl), stays_tw _ _ _ _ td tw⟩
          · obtain ⟨y', hy', tw'⟩ := vals3 k ((mem_plusR.mp hk).resolve_right c)
            exact ⟨y', ((valV_put ents (keyRow row) (keyRow k) y).trans (if_neg fun e => c (inr_inj.mp e))).trans hy', stays_tw _ _ _ _ (fun c us hc => td _ _ (g37 _ _ hc)) tw'⟩
      have vrow : val rs row = stepV told := by rw [val_eq rs lrow, hto]
      refine ⟨_, rfl, _, .inl ⟨_, SqL.of hW6, rfl⟩, ?_⟩
      by_cases c : ((told.filter fun t => !t.1).map (·.2)) = []
      · rw [c]
        refine iteF ?_
        refine ⟨_, rfl, T1, rfl, ⟨_, SqL.of (g6 _ _ hT5)⟩, fun M1 hM1 => ?_⟩
        refine lcS (walk_list (K := K) (a := T1) (xs := us)) stays_int told (fun _ => true) (fun t => 1 + t.2) lut (by omega) (fun H7 g7 => SqL.of (g7 _ _ (g6 _ _ hT5))) hM1 ?_ ?_
        · rintro i2 x2 t H7 H8 Nx ht ⟨rfl, hx2⟩ sm _ yes
          obtain ⟨t', ht', rt, rfl, hrt⟩ := paired_at pu i2 _ hx2
          have e : t' = t := Option.some.inj (ht'.symm.trans ht)
          subst e
          refine ⟨rt, [.bl t'.1, .int t'.2], rfl, SqT.of (sm _ _ (g6 _ _ hrt)), rfl, _, _, rfl, _, _, rfl, rfl, rfl, ?_⟩
          exact ⟨_, rfl, _, _, rfl, rfl, yes rfl _ _ (Same.refl _) rfl⟩
        intro H7 g7 l7
        rw [filter_all] at l7
        obtain ⟨ms, hM7, pm⟩ := l7
        rw [ints_vs pm] at hM7
        refine ⟨M1, told.map (fun t => 1 + t.2), 0, rfl, rfl, SqL.of hM7, fun e => ?_, fun m hm hl => ?_⟩
        · refine ⟨two, fun t ht => ⟨_, rfl, _, rfl, D, _, rfl, DPut.t (same_new ht _ _ (g7 _ _ hD6)) (kr (same_new ht _ _ (g7 _ _ hr6))) (by omega), ?_⟩⟩
          obtain ⟨e1, k1, rest⟩ := done _ (.ref t) (g7.trans (same_new ht)) ⟨t, rfl, by rw [upd_same, vrow, step_lose0 c e]⟩
          exact ⟨_, _, _, _, _, _, _, e1, k1, rfl, rest⟩
        · refine ⟨two, fun t ht => ⟨_, rfl, _, rfl, D, _, rfl, DPut.t (same_new ht _ _ (g7 _ _ hD6)) (kr (same_new ht _ _ (g7 _ _ hr6))) (by omega), ?_⟩⟩
          have ev : stepV told = (false, m) := step_lose c hm hl fun y hy => by
            obtain ⟨t, ht, rfl⟩ := List.mem_map.mp hy
            have := pos t ht
            omega
          obtain ⟨e1, k1, rest⟩ := done _ (.ref t) (g7.trans (same_new ht)) ⟨t, rfl, by rw [upd_same, vrow, ev]⟩
          exact ⟨_, _, _, _, _, _, _, e1, k1, rfl, rest⟩
      · have em : (!(((told.filter fun t => !t.1).map (·.2)).map V.int).isEmpty) = true := by
          cases e : (told.filter fun t => !t.1).map (·.2) with
          | nil => exact absurd e c
          | cons _ _ => rfl
        rw [em]
        refine iteT ?_
        refine ⟨_, rfl, W1, (told.filter fun t => !t.1).map (·.2), rfl, SqL.of hW6, List.length_pos_iff.mpr c, fun m hm hl => ?_⟩
        refine ⟨_, _, rfl, rfl, two, fun t ht => ⟨_, rfl, _, rfl, D, _, rfl, DPut.t (same_new ht _ _ hD6) (kr (same_new ht _ _ hr6)) (by omega), ?_⟩⟩
        obtain ⟨e1, k1, rest⟩ := done _ (.ref t) (same_new ht) ⟨t, rfl, by rw [upd_same, vrow, step_win c hm hl]⟩
        exact ⟨_, _, _, _, _, _, _, e1, k1, rfl, rest⟩
    · rintro σ H3 ⟨v3, v4, v5, v6, v7, v8, v9, ents, ks, rfl, g, hb3, hD3, le3, hk3, nd3, mem3, vals3⟩
      refine ⟨_, rfl, q H3 D ⟨ents, hD3, fun k hk => vals3 k ((mem3 k).mpr ?_)⟩ (g1.trans g)⟩
      rw [show xs.reverse.length = rs.reverse.length by rw [List.length_reverse, List.length_reverse, el], List.take_length]
      exact List.mem_reverse.mpr hk
end
end K07
namespace K07
open PySem L2 Nm
open C8 (Cal Mak pe_c pe_mk pe_gc)
open RZ (ItzT pi_zipA)
section
variable {P : Program} {w : World} {K : PySem.W.Frag} {mg : Str → Option Value} {base : Heap}
def sp_winner (K : PySem.W.Frag) : Sp := fun vs H Q _ => ∃ (a r : Addr), vs = [.ref a, .ref r] ∧ ∃ rs row, GmAt H a rs ∧ IsG rs ∧ H r = some (.tup (row.map V.str)) ∧ row ∈ rs ∧ ∀ H', Same H H' → Q (.int (winS rs row)) H'
theorem c_winner (T : Txt K mg) : Cal P w K mg base 8 "winner" (sp_winner K) [] := by
  have C_check_place := c_check_place (P := P) (w := w) (base := base) T
  have C_mover := c_mover (P := P) (w := w) (base := base) T
  have C_solved := c_solved (P := P) (w := w) (base := base) T
  have sc := sc_winner
  refine cal_of T.d_winner sc (fun _ _ _ _ _ _ us hl => match us, hl with | [_, _], _ => rfl) (fun vs H Q E h => ?_) (fun f cdv A outer s H vs Q E hr h => ?_)
  · obtain ⟨a, r, rfl, _⟩ := h
    rfl
  · obtain ⟨a, r, rfl, h⟩ := h
    refine ⟨_, (pss_cons (ps_expr (pe_c C_check_place hr (by omega) rfl (pa_cons (pv 0) (pa_cons (pv 1) pa_nil))))
  (pss_cons (ps_set (i := 2) sc.nd rfl (Or.inl rfl) (pe_c C_mover hr (by omega) rfl (pa_cons (pv 1) pa_nil)))
  (pss_one (ps_ret (pe_ifExp (pt_val (pe_ix ix_tup (pe_dget (hu_of hr) (pe_c C_solved hr (by omega) rfl (pa_cons (pv 0) pa_nil)) (pv 1) (fun _ _ => rfl)) pe_int (fun _ _ => rfl))) (pv 2) (pe_op op_sub pe_int (pv 2))))))), ?_⟩
    obtain ⟨rs, row, gm, G, hr', mr, q⟩ := h
    refine ⟨_, rfl, _, rfl, a, r, rfl, rs, row, gm, G, hr', mr, fun H1 g1 => ?_⟩
    refine ⟨_, rfl, r, row, rfl, g1 _ _ hr', G.ok row mr, fun H2 g2 => ?_⟩
    have g12 := g1.trans g2
    refine ⟨_, rfl, a, rfl, rs, gm.keep (tups_same g12), G, fun H3 D vd g3 => ?_⟩
    have g13 := g12.trans g3
    obtain ⟨ents, hD, vals⟩ := vd
    obtain ⟨y, hy, t, rfl, ht⟩ := vals row mr
    refine ⟨_, rfl, D, .ref t, rfl, hy ▸ DGet.t hD (by rw [kV_row]; exact g13 _ _ hr'), t, _, 0, .bl (val rs row).1, rfl, rfl, SqT.of ht, rfl, (val rs row).1, rfl, ?_⟩
    have q' := q H3 g13
    unfold winS at q'
    cases c : (val rs row).1 with
    | true =>
      rw [c, if_pos rfl] at q'
      exact iteT ⟨_, rfl, q'⟩
    | false =>
      rw [c, if_neg Bool.false_ne_true] at q'
      exact iteF ⟨_, rfl, _, _, rfl, rfl, q'⟩
end
end K07
namespace K07
open PySem L2 Nm
open C8 (Cal Mak pe_c pe_mk pe_gc)
open RZ (ItzT pi_zipA)
section
variable {P : Program} {w : World} {K : PySem.W.Frag} {mg : Str → Option Value} {base : Heap}
theorem at_ok {xs : List V} {r : Int} (h0 : 0 ≤ r) (h1 : r < (xs.length : Int)) : ∃ x, atI xs r = some x ∧ x ∈ xs := by
  obtain ⟨k, rfl⟩ : ∃ k : Nat, r = (k : Int) := ⟨r.toNat, by omega⟩
  have e : xs[k]? = some (xs[k]'(by omega)) := List.getElem?_eq_getElem (by omega)
  exact ⟨_, atI_nat e, List.mem_of_getElem? e⟩
def sp__law_some (K : PySem.W.Frag) : Sp := fun vs H Q _ => ∃ (tp p : Addr), vs = [.ref tp, .ref p] ∧ ∃ l xs, TapeAt H tp l ∧ H p = some (.tup xs) ∧ 1 ≤ xs.length ∧ xs.length ≤ 1000 ∧ ∀ (x : V) (H' : Hp), x ∈ xs → TapeAt H' tp l → Mov tp H H' → Q x H'
def sp__law_someL (K : PySem.W.Frag) : Sp := fun vs H Q _ => ∃ (tp p : Addr), vs = [.ref tp, .ref p] ∧ ∃ l xs, TapeAt H tp l ∧ H p = some (.lst xs) ∧ p ≠ tp ∧ 1 ≤ xs.length ∧ xs.length ≤ 1000 ∧ ∀ (x : V) (H' : Hp), x ∈ xs → TapeAt H' tp l → Mov tp H H' → Q x H'
def sp_some2 (K : PySem.W.Frag) : Sp := fun vs H Q _ => ∃ (tp p : Addr), vs = [.ref tp, .ref p] ∧ ∃ l xs, TapeAt H tp l ∧ (H p = some (.tup xs) ∨ (H p = some (.lst xs) ∧ p ≠ tp)) ∧ 1 ≤ xs.length ∧ xs.length ≤ 1000 ∧ ∀ (x : V) (H' : Hp), x ∈ xs → TapeAt H' tp l → Mov tp H H' → Q x H'
theorem c_some2 (T : Txt K mg) : Cal P w K mg base 2 "_law_some" (sp_some2 K) [] := by
  have C__law_pick := c__law_pick (P := P) (w := w) (base := base) T
  have sc := sc__law_some
  refine cal_of T.d__law_some sc (fun _ _ _ _ _ _ us hl => match us, hl with | [_, _], _ => rfl) (fun vs H Q E h => ?_) (fun f cdv A outer s H vs Q E hr h => ?_)
  · obtain ⟨tp, p, rfl, _⟩ := h
    rfl
  · obtain ⟨tp, p, rfl, h⟩ := h
    refine ⟨_, (pss_one (ps_ret (pe_ix Nm.ix_any (pv 1) (pe_c C__law_pick hr (by omega) rfl (pa_cons (pv 0) (pa_cons (pe_callB (r := Nm.rLenS K) (id := "len") Nm.call_lenS rfl T.m_len (by decide +kernel) (pa_cons (pv 1) pa_nil)) pa_nil))) (fun _ _ => rfl)))), ?_⟩
    obtain ⟨l, xs, t, hp, l1, l2', q⟩ := h
    rcases hp with hp | ⟨hp, np⟩
    · refine ⟨_, rfl, _, rfl, _, rfl, p, _, rfl, .inr (SqT.of hp), tp, _, rfl, l, t, by omega, by omega, fun r H1 r0 r1 t1 mv => ?_⟩
      obtain ⟨x, hx, mx⟩ := at_ok r0 r1
      exact .inr ⟨p, _, r, x, rfl, rfl, SqT.of ((t.keep mv).tups _ _ hp), hx, q x H1 mx t1 mv⟩
    · refine ⟨_, rfl, _, rfl, _, rfl, p, _, rfl, .inl (SqL.of hp), tp, _, rfl, l, t, by omega, by omega, fun r H1 r0 r1 t1 mv => ?_⟩
      obtain ⟨x, hx, mx⟩ := at_ok r0 r1
      exact .inl ⟨p, _, r, x, rfl, rfl, SqL.of (mv _ _ hp np), hx, q x H1 mx t1 mv⟩
theorem c__law_some (T : Txt K mg) : Cal P w K mg base 2 "_law_some" (sp__law_some K) [] := cal_mono (c_some2 T) fun vs H Q E ⟨tp, p, e, l, xs, t, hp, a, b, q⟩ => ⟨tp, p, e, l, xs, t, .inl hp, a, b, q⟩
theorem c__law_someL (T : Txt K mg) : Cal P w K mg base 2 "_law_some" (sp__law_someL K) [] := cal_mono (c_some2 T) fun vs H Q E ⟨tp, p, e, l, xs, t, hp, n, a, b, q⟩ => ⟨tp, p, e, l, xs, t, .inr ⟨hp, n⟩, a, b, q⟩
end
end K07
namespace K07
open PySem L2 Nm
open C8 (Cal Mak pe_c pe_mk pe_gc)
open RZ (ItzT pi_zipA)
theorem few_ok : ∀ x ∈ [V.str "a", V.str "b", V.str "c", V.str "a", V.str "b", V.str "ab", V.str "zz", V.str "c", V.str "aa", V.str "qwertyuiopasdfghjklz"], ∃ z, x = .str z ∧ wordOk z := by
  intro x hx
  simp only [List.mem_cons, List.not_mem_nil, or_false] at hx
  rcases hx with rfl | rfl | rfl | rfl | rfl | rfl | rfl | rfl | rfl | rfl <;> exact ⟨_, rfl, by decide +kernel, by decide +kernel⟩
section
variable {P : Program} {w : World} {K : PySem.W.Frag} {mg : Str → Option Value} {base : Heap}
def sp__law_word (K : PySem.W.Frag) : Sp := fun vs H Q _ => ∃ (tp : Addr), vs = [.ref tp] ∧ ∃ l, TapeAt H tp l ∧ ∀ z H', wordOk z → TapeAt H' tp l → Mov tp H H' → Q (.str z) H'
theorem c__law_word (T : Txt K mg) : Cal P w K mg base 2 "_law_word" (sp__law_word K) [] := by
  have C__law_pick := c__law_pick (P := P) (w := w) (base := base) T
  have sc := sc__law_word
  refine cal_of T.d__law_word sc (fun _ _ _ _ _ _ us hl => match us, hl with | [_], _ => rfl) (fun vs H Q E h => ?_) (fun f cdv A outer s H vs Q E hr h => ?_)
  · obtain ⟨tp, rfl, _⟩ := h
    rfl
  · obtain ⟨tp, rfl, h⟩ := h
    refine ⟨_, (pss_cons (ps_set (i := 1) sc.nd rfl (Or.inl rfl) (pe_lst (pa_cons pe_str (pa_cons pe_str (pa_cons pe_str (pa_cons pe_str (pa_cons pe_str (pa_cons pe_str (pa_cons pe_str (pa_cons pe_str (pa_cons pe_str (pa_cons pe_str pa_nil))))))))))))
  (pss_one (ps_ret (pe_ix ix_list (pv 1) (pe_c C__law_pick hr (by omega) rfl (pa_cons (pv 0) (pa_cons pe_int pa_nil))) (fun _ _ => rfl))))), ?_⟩
    obtain ⟨l, t, q⟩ := h
    refine ⟨(by show 10 ≤ PySem.sizeLine; decide), fun p hp => ?_⟩
    have np := t.new hp
    have g := same_new (o := .lst [V.str "a", V.str "b", V.str "c", V.str "a", V.str "b", V.str "ab", V.str "zz", V.str "c", V.str "aa", V.str "qwertyuiopasdfghjklz"]) hp
    refine ⟨_, rfl, _, rfl, tp, 10, rfl, l, t.same g, by decide, by decide, fun r H1 r0 r1 t1 mv => ?_⟩
    obtain ⟨x, hx, mx⟩ := at_ok (xs := [V.str "a", V.str "b", V.str "c", V.str "a", V.str "b", V.str "ab", V.str "zz", V.str "c", V.str "aa", V.str "qwertyuiopasdfghjklz"]) r0 r1
    obtain ⟨z, rfl, hz⟩ := few_ok x mx
    exact ⟨p, _, r, _, rfl, rfl, SqL.of (mv _ _ upd_same np.1), hx, q z H1 hz t1 ((mov_same g).trans mv)⟩
end
end K07
namespace K07
open PySem L2 Nm
open C8 (Cal Mak pe_c pe_mk pe_gc)
open RZ (ItzT pi_zipA)
/-- the rows that have grown so far -/
structure Grow (rs : List (List Str)) (i : Nat) : Prop where
  nil : [] ∈ rs
  nd : rs.Nodup
  pre : ∀ r ∈ rs, r.dropLast ∈ rs
  ok : ∀ r ∈ rs, r.length ≤ i ∧ ∀ z ∈ r, wordOk z
  len : rs.length ≤ i + 1
theorem Grow.next {rs : List (List Str)} {i : Nat} (g : Grow rs i) : Grow rs (i + 1) := ⟨g.nil, g.nd, g.pre, fun r hr => ⟨by have := (g.ok r hr).1; omega, (g.ok r hr).2⟩, by have := g.len; omega⟩
theorem Grow.more {rs : List (List Str)} {i : Nat} (g : Grow rs i) {row : List Str} (hr : row ∈ rs) {w : Str} (hw : wordOk w) (n : row ++ [w] ∉ rs) : Grow (rs ++ [row ++ [w]]) (i + 1) := by
  refine ⟨List.mem_append_left _ g.nil, List.nodup_append.mpr ⟨g.nd, List.pairwise_singleton _ _, fun a ha b hb e => n (by rw [← List.mem_singleton.mp hb, ← e]; exact ha)⟩, fun r hr' => ?_, fun r hr' => ?_, ?_⟩
  · rcases List.mem_append.mp hr' with h | h
    · exact List.mem_append_left _ (g.pre r h)
    · rw [List.mem_singleton.mp h, List.dropLast_concat]
      exact List.mem_append_left _ hr
  · rcases List.mem_append.mp hr' with h | h
    · exact ⟨by have := (g.ok r h).1; omega, (g.ok r h).2⟩
    · rw [List.mem_singleton.mp h]
      refine ⟨by rw [List.length_append, List.length_singleton]; have := (g.ok row hr).1; omega, fun z hz => ?_⟩
      rcases List.mem_append.mp hz with m | m
      · exact (g.ok row hr).2 z m
      · rw [List.mem_singleton.mp m]
        exact hw
  · rw [List.length_append, List.length_singleton]
    have := g.len
    omega
theorem Grow.game {rs gs : List (List Str)} {i : Nat} (g : Grow rs i) (i6 : i ≤ 60) (up : gs.Pairwise bef) (pm : gs.Perm rs) : IsG gs :=
  ⟨up, pm.mem_iff.mpr g.nil, fun r hr => pm.mem_iff.mpr (g.pre r (pm.mem_iff.mp hr)), fun r hr => ⟨by have := (g.ok r (pm.mem_iff.mp hr)).1; omega, (g.ok r (pm.mem_iff.mp hr)).2⟩, by rw [pm.length_eq]; have := g.len; omega⟩
section
variable {P : Program} {w : World} {K : PySem.W.Frag} {mg : Str → Option Value} {base : Heap}
def sp__law_game (K : PySem.W.Frag) : Sp := fun vs H Q _ => ∃ (tp : Addr) (most : Int), vs = [.ref tp, .int most] ∧ ∃ l, TapeAt H tp l ∧ 1 ≤ most ∧ most ≤ 60 ∧
  ∀ (p : Addr) (gs : List (List Str)) (H' : Hp), GmAt H' p gs → IsG gs → (gs.length : Int) ≤ most → (∀ r ∈ gs, (r.length : Int) < most) → TapeAt H' tp l → Mov tp H H' → Q (.ref p) H'
theorem c__law_game (T : Txt K mg) : Cal P w K mg base 3 "_law_game" (sp__law_game K) [] := by
  have C__law_pick := c__law_pick (P := P) (w := w) (base := base) T
  have C__law_word := c__law_word (P := P) (w := w) (base := base) T
  have sc := sc__law_game
  refine cal_of T.d__law_game sc (fun _ _ _ _ _ _ us hl => match us, hl with | [_, _], _ => rfl) (fun vs H Q E h => ?_) (fun f cdv A outer s H vs Q E hr h => ?_)
  · obtain ⟨tp, most, rfl, _⟩ := h
    rfl
  · obtain ⟨tp, most, rfl, h⟩ := h
    refine ⟨_, (pss_cons (ps_set (i := 2) sc.nd rfl (Or.inl rfl) (pe_lst (pa_cons (pe_tup pa_nil) pa_nil)))
  (pss_cons (ps_for PassesOwn.never rfl (pi_range1 rfl T.m_range (pa_cons (pe_c C__law_pick hr (by omega) rfl (pa_cons (pv 0) (pa_cons (pv 1) pa_nil))) pa_nil)) (pg_name (i := 3) sc.nd rfl (Or.inl rfl)) (pss_cons (ps_set (i := 4) sc.nd rfl (Or.inl rfl) (pe_ix ix_list (pv 2) (pe_c C__law_pick hr (by omega) rfl (pa_cons (pv 0) (pa_cons (pe_callB (r := Nm.rLenS K) (id := "len") Nm.call_lenS rfl T.m_len (by decide +kernel) (pa_cons (pv 2) pa_nil)) pa_nil))) (fun _ _ => rfl)))
  (C8.pss_cut (ps_if (pt_cmpR op_gt (pe_c C__law_pick hr (by omega) rfl (pa_cons (pv 0) (pa_cons pe_int pa_nil))) pe_int (nomark _)) (pss_one (ps_set (i := 4) sc.nd rfl (Or.inl rfl) (pe_ix ix_list (pv 2) (pe_un un_neg pe_int) (fun _ _ => rfl)))) pss_nil)
  (pss_cons (ps_set (i := 5) sc.nd rfl (Or.inl rfl) (pe_op op_catA (pv 4) (pe_tup (pa_cons (pe_c C__law_word hr (by omega) rfl (pa_cons (pv 0) pa_nil)) pa_nil))))
  (pss_one (ps_if (pt_cmpR (op_notInD (u65 hr)) (pv 5) (pv 2) rfl) (pss_one (ps_expr (pe_bm PySem.F.plainAttrs_list PySem.F.slot_list_append PySem.F.type_list_append mt_append (pv 2) (pa_cons (pv 5) pa_nil)))) pss_nil))))))
  (pss_one (ps_ret (pe_callTy call_tuple_of rfl T.m_tuple (by decide +kernel) (pa_cons (pe_callB (NmD.cr_sortD (u66 hr)) rfl T.m_sorted (by decide +kernel) (pa_cons (pv 2) pa_nil)) pa_nil)))))), ?_⟩
    obtain ⟨l, t0, m1, m6, q⟩ := h
    refine ⟨nought, fun e0 he0 => ⟨(by show 1 ≤ PySem.sizeLine; decide), fun D hD => ?_⟩⟩
    have g0 := (same_new (o := .tup []) he0).trans (same_new (o := .lst [V.ref e0]) hD)
    have t1 := t0.same g0
    have nD := (t0.same (same_new (o := .tup []) he0)).new hD
    have hD1 : upd (upd H e0 (.tup [])) D (.lst [V.ref e0]) D = some (.lst [V.ref e0]) := upd_same
    have he1 : upd (upd H e0 (.tup [])) D (.lst [V.ref e0]) e0 = some (.tup (([] : List Str).map V.str)) := by
      rw [upd_ne (fun z => by rw [← z, upd_same] at hD; cases hD)]
      exact upd_same
    have hDn : H D = none := by
      cases e : H D with
      | none => rfl
      | some o => rw [same_new (o := .tup []) he0 _ _ e] at hD; cases hD
    generalize upd (upd H e0 (.tup [])) D (.lst [V.ref e0]) = H1 at g0 t1 hD1 he1
    refine ⟨_, rfl, _, rfl, tp, most, rfl, l, t1, by omega, by omega, fun r H2 r0 r1 t2 mv2 => ⟨r, rfl, by omega, by omega, ?_⟩⟩
    have m02 := (mov_same g0).trans mv2
    refine for_range (lo := 0) (n := r.toNat) (fun i σ H' => ∃ xs rs v3 v4 v5, σ = [some (.ref tp), some (.int most), some (.ref D), v3, v4, v5] ∧ H' D = some (.lst xs) ∧ Paired (RwAt H') xs rs ∧ Grow rs i ∧ TapeAt H' tp l ∧ Mov tp H H')
      ⟨_, [[]], _, _, _, rfl, mv2 _ _ hD1 nD.1, .cons ⟨e0, rfl, (t1.keep mv2).tups _ _ he1⟩ .nil, ⟨List.mem_singleton.mpr rfl, List.pairwise_singleton _ _, fun r hr => by rw [List.mem_singleton.mp hr]; exact List.mem_singleton.mpr rfl, fun r hr => by rw [List.mem_singleton.mp hr]; exact ⟨Nat.le_refl _, fun z hz => absurd hz (List.not_mem_nil)⟩, Nat.le_refl _⟩, t2, m02⟩ ?_ ?_
    · rintro i σ H3 hi ⟨xs, rs, v3, v4, v5, rfl, hD3, pa, gr, t3, m3⟩
      have el := paired_len pa
      have len := gr.len
      have one : 1 ≤ rs.length := List.length_pos_of_mem gr.nil
      refine ⟨_, rfl, _, rfl, _, rfl, D, _, rfl, .inl (SqL.of hD3), tp, _, rfl, l, t3, by omega, by omega, fun r4 H4 r40 r41 t4 mv4 => ?_⟩
      obtain ⟨x, hx, mx⟩ := at_ok r40 r41
      have hD4 := mv4 _ _ hD3 nD.1
      have pa4 := paired_mono (fun _ _ => stays_rw _ _ _ _ (t3.keep mv4).tups) pa
      refine ⟨D, _, r4, x, rfl, rfl, SqL.of hD4, hx, ?_⟩
      obtain ⟨i4, hi4⟩ := List.mem_iff_getElem?.mp mx
      obtain ⟨row4, hrow4, hx4⟩ := paired_at pa4 i4 x hi4
      have mrow4 := List.mem_of_getElem? hrow4
      refine ⟨fun σ H5 => ∃ y row, σ = [some (.ref tp), some (.int most), some (.ref D), some (.int (0 + (i : Int))), some y, v5] ∧ RwAt H5 y row ∧ row ∈ rs ∧ H5 D = some (.lst xs) ∧ Paired (RwAt H5) xs rs ∧ TapeAt H5 tp l ∧ Mov tp H H5, ?_, ?_⟩
      · refine ⟨_, rfl, tp, 3, rfl, l, t4, by decide, by decide, fun r5 H5 r50 r51 t5 mv5 => ⟨_, _, rfl, rfl, _, rfl, ?_⟩⟩
        have hD5 := mv5 _ _ hD4 nD.1
        have pa5 := paired_mono (fun _ _ => stays_rw _ _ _ _ (t4.keep mv5).tups) pa4
        have m5 := (m3.trans mv4).trans mv5
        refine ite2 (fun _ => ?_) (fun _ => ?_)
        · obtain ⟨y, hy, my⟩ := at_ok (xs := xs) (r := (xs.length : Int) - 1) (by omega) (by omega)
          have hy' : atI xs (-1) = some y := by
            unfold atI ixN at hy ⊢
            rw [if_pos (by omega), if_pos (by omega)] at hy
            rw [if_neg (by decide), if_pos (by omega)]
            have e : ((-1 : Int) + (xs.length : Int)).toNat = ((xs.length : Int) - 1).toNat := by omega
            show xs[((-1 : Int) + (xs.length : Int)).toNat]? = some y
            rw [e]
            exact hy
          obtain ⟨i5, hi5⟩ := List.mem_iff_getElem?.mp my
          obtain ⟨row5, hrow5, hx5⟩ := paired_at pa5 i5 y hi5
          exact ⟨_, rfl, 1, rfl, D, _, -1, y, rfl, rfl, SqL.of hD5, hy', y, row5, rfl, hx5, List.mem_of_getElem? hrow5, hD5, pa5, t5, m5⟩
        · exact ⟨x, row4, rfl, stays_rw _ _ _ _ (t4.keep mv5).tups hx4, mrow4, hD5, pa5, t5, m5⟩
      · rintro σ H5 ⟨y, row, rfl, ⟨yr, rfl, hy⟩, mrow, hD5, pa5, t5, m5⟩
        refine ⟨_, rfl, _, rfl, tp, rfl, l, t5, fun z H6 hz t6 mv6 => ⟨(by show 1 ≤ PySem.sizeLine; decide), fun c hc => ?_⟩⟩
        have g6 := same_new (o := .tup [V.str z]) hc
        have hy6 := g6 _ _ ((t5.keep mv6).tups _ _ hy)
        have lrow := (gr.ok row mrow).1
        refine cat_tups hy6 upd_same (by rw [List.length_map]; show row.length + 1 ≤ 4000; omega) fun b H7 g7 hb => ?_
        have mv7 := (mv6.trans (mov_same g6)).trans (mov_same g7)
        have hD7 := mv7 _ _ hD5 nD.1
        have pa7 := paired_mono (fun _ _ => stays_rw _ _ _ _ (t5.keep mv7).tups) pa5
        have hb' : H7 b = some (.tup ((row ++ [z]).map V.str)) := by
          rw [List.map_append]
          exact hb
        have t7 := (t6.same g6).same g7
        have okrow := (gr.ok row mrow).2
        have okz : ∀ u ∈ row ++ [z], wordOk u := fun u hu => by
          rcases List.mem_append.mp hu with m | m
          · exact okrow u m
          · rw [List.mem_singleton.mp m]
            exact hz
        refine ⟨_, rfl, _, rfl, rowD (row ++ [z]), rs.map rowD, dp_row hb', dp_gameL ⟨xs, hD7, pa7⟩, shaped_rw okz, shaped_gameL fun r hr => (gr.ok r hr).2, ?_⟩
        rw [any_row]
        by_cases c8 : row ++ [z] ∈ rs
        · rw [decide_eq_true c8]
          exact ⟨false, rfl, iteF ⟨xs, rs, _, _, _, rfl, hD7, pa7, gr.next, t7, m5.trans mv7⟩⟩
        · rw [decide_eq_false c8]
          refine ⟨true, rfl, iteT ?_⟩
          have big : (1000 : Nat) < PySem.sizeLine := by decide
          refine ⟨_, rfl, .inl ⟨rfl, _, SqL.of hD7⟩, _, rfl, D, xs, .ref b, rfl, rfl, hD7, by omega, ?_⟩
          have tl := tups_lst (vs := xs ++ [V.ref b]) hD7
          exact ⟨xs ++ [.ref b], rs ++ [row ++ [z]], _, _, _, rfl, upd_same, paired_snoc (paired_mono (fun _ _ => stays_rw _ _ _ _ tl) pa7) ⟨b, rfl, tl _ _ hb'⟩, gr.more mrow hz c8, t7.upd nD, mov_mut (m5.trans mv7) hDn⟩
    · rintro σ H3 ⟨xs, rs, v3, v4, v5, rfl, hD3, pa, gr, t3, m3⟩
      have back : ∀ x ∈ xs, ∃ ws, RwAt H3 x ws := fun x hx => by
        obtain ⟨i, hi⟩ := List.mem_iff_getElem?.mp hx
        obtain ⟨ws, _, h⟩ := paired_at pa i x hi
        exact ⟨ws, h⟩
      refine ⟨_, rfl, D, xs, fun x => rowL (rowOf H3 x), rfl, SqL.of hD3, fun x hx => ?_, fun x _ y _ => alike_rowL _ _, fun ys p srt stb hp => ⟨p, ys, rfl, .inl ⟨SqL.of upd_same, fun p2 hp2 => ?_⟩⟩⟩
      · obtain ⟨ws, r, rfl, hr⟩ := back x hx
        refine ⟨⟨r, rfl⟩, ?_, pure_rowL _, by rw [depth_rowL]; decide⟩
        show Dp K H3 (.ref r) (.tuple (rowL (rowOf H3 (.ref r))))
        rw [rowOf_at hr]
        exact dp_row hr
      obtain ⟨s1, s2, s3⟩ := sorted_rows pa gr.nd srt stb
      have g3 := (same_new (o := .lst ys) hp).trans (same_new (o := .tup ys) hp2)
      have len := gr.len
      exact q p2 (ys.map (rowOf H3)) _ ⟨ys, upd_same, paired_mono (fun _ _ => stays_rw _ _ _ _ (tups_same g3)) s1⟩ (gr.game (by omega) s2 s3) (by rw [s3.length_eq]; omega) (fun r hr => by have := (gr.ok r (s3.mem_iff.mp hr)).1; omega) (t3.same g3) (m3.trans (mov_same g3))
end
end K07
namespace K07
open PySem L2 Nm
open C8 (Cal Mak pe_c pe_mk pe_gc)
open RZ (ItzT pi_zipA)
section
variable {P : Program} {w : World} {K : PySem.W.Frag} {mg : Str → Option Value} {base : Heap}
def sp_moves_left (K : PySem.W.Frag) : Sp := fun vs H Q _ => ∃ (a r : Addr), vs = [.ref a, .ref r] ∧ ∃ rs row, GmAt H a rs ∧ IsG rs ∧ H r = some (.tup (row.map V.str)) ∧ row ∈ rs ∧ ∀ H', Same H H' → Q (.int (val rs row).2) H'
theorem c_moves_left (T : Txt K mg) : Cal P w K mg base 8 "moves_left" (sp_moves_left K) [] := by
  have C_check_place := c_check_place (P := P) (w := w) (base := base) T
  have C_solved := c_solved (P := P) (w := w) (base := base) T
  have sc := sc_moves_left
  refine cal_of T.d_moves_left sc (fun _ _ _ _ _ _ us hl => match us, hl with | [_, _], _ => rfl) (fun vs H Q E h => ?_) (fun f cdv A outer s H vs Q E hr h => ?_)
  · obtain ⟨a, r, rfl, _⟩ := h
    rfl
  · obtain ⟨a, r, rfl, h⟩ := h
    refine ⟨_, (pss_cons (ps_expr (pe_c C_check_place hr (by omega) rfl (pa_cons (pv 0) (pa_cons (pv 1) pa_nil))))
  (pss_one (ps_ret (pe_ix ix_tup (pe_dget (hu_of hr) (pe_c C_solved hr (by omega) rfl (pa_cons (pv 0) pa_nil)) (pv 1) (fun _ _ => rfl)) pe_int (fun _ _ => rfl))))), ?_⟩
    obtain ⟨rs, row, gm, G, hr', mr, q⟩ := h
    refine ⟨_, rfl, _, rfl, a, r, rfl, rs, row, gm, G, hr', mr, fun H1 g1 => ?_⟩
    refine ⟨_, rfl, a, rfl, rs, gm.keep (tups_same g1), G, fun H3 D vd g3 => ?_⟩
    have g13 := g1.trans g3
    obtain ⟨ents, hD, vals⟩ := vd
    obtain ⟨y, hy, t, rfl, ht⟩ := vals row mr
    exact ⟨_, rfl, D, .ref t, rfl, hy ▸ DGet.t hD (by rw [kV_row]; exact g13 _ _ hr'), t, _, 1, .int (val rs row).2, rfl, rfl, SqT.of ht, rfl, q H3 g13⟩
end
end K07
namespace K07
open PySem L2 Nm
open C8 (Cal Mak pe_c pe_mk pe_gc)
open RZ (ItzT pi_zipA)
/-- what the law reckons of a row: who wins, in how many words -/
def RcAt (H : Hp) (y : V) (t : Int × Int) : Prop := ∃ r, y = .ref r ∧ H r = some (.tup [.int t.1, .int t.2])
theorem stays_rc : Stays RcAt := fun _ _ _ _ t ⟨r, e, h⟩ => ⟨r, e, t _ _ h⟩
def rc (rs : List (List Str)) (k : List Str) : Int × Int := (winS rs k, (val rs k).2)
def RsAt (H : Hp) (D : Addr) (rs : List (List Str)) : Prop := ∃ ents : List (List Key × V), H D = some (.dT ents) ∧ ∀ k ∈ rs, ∃ y, valV ents (keyRow k) = some y ∧ RcAt H y (rc rs k)
theorem RsAt.same {H H' : Hp} {D : Addr} {rs : List (List Str)} (h : RsAt H D rs) (g : Same H H') : RsAt H' D rs := by
  obtain ⟨ents, h1, h2⟩ := h
  refine ⟨ents, g _ _ h1, fun k hk => ?_⟩
  obtain ⟨y, e1, e2⟩ := h2 k hk
  exact ⟨y, e1, stays_rc _ _ _ _ (tups_same g) e2⟩
theorem nexts_words (rs : List (List Str)) (row : List Str) : nexts rs row = (wordsAt rs row).map fun w => row ++ [w] := by
  unfold wordsAt
  rw [List.map_map]
  show nexts rs row = (nexts rs row).map _
  refine (List.map_id _).symm.trans (List.map_congr_left fun l hl => ?_)
  obtain ⟨_, w, rfl⟩ := mem_nexts.mp hl
  show row ++ [w] = row ++ [lastW (row ++ [w])]
  rw [lastW_snoc]
/-- behind a row the side that moves there wins just where the one who moves next loses -/
theorem rc_side {rs : List (List Str)} {row l : List Str} (h : l ∈ nexts rs row) : decide ((rc rs l).1 = (row.length : Int) % 2) = !(val rs l).1 := by
  show decide (winS rs l = _) = _
  unfold winS
  rw [nexts_len h]
  have a : ((row.length : Int) % 2 = 0 ∨ (row.length : Int) % 2 = 1) ∧ ((row.length + 1 : Nat) : Int) % 2 = 1 - (row.length : Int) % 2 := by omega
  cases (val rs l).1 with
  | true =>
    rw [if_pos rfl]
    exact decide_eq_false (by omega)
  | false =>
    rw [if_neg Bool.false_ne_true]
    exact decide_eq_true (by omega)
section
variable {P : Program} {w : World} {K : PySem.W.Frag} {mg : Str → Option Value} {base : Heap}
def sp__law_results (K : PySem.W.Frag) : Sp := fun vs H Q _ => ∃ (a : Addr), vs = [.ref a] ∧ ∃ rs, GmAt H a rs ∧ IsG rs ∧ rs.length ≤ 600 ∧ ∀ H' D, RsAt H' D rs → Same H H' → Q (.ref D) H'
theorem c__law_results (T : Txt K mg) : Cal P w K mg base 2 "_law_results" (sp__law_results K) [] := by
  have C__law_words := c__law_words (P := P) (w := w) (base := base) T
  have sc := sc__law_results
  refine cal_of T.d__law_results sc (fun _ _ _ _ _ _ us hl => match us, hl with | [_], _ => rfl) (fun vs H Q E h => ?_) (fun f cdv A outer s H vs Q E hr h => ?_)
  · obtain ⟨a, rfl, _⟩ := h
    rfl
  · obtain ⟨a, rfl, h⟩ := h
    refine ⟨_, (pss_cons (ps_set (i := 1) sc.nd rfl (Or.inr rfl) pe_dnewT)
  (pss_cons (ps_for PassesOwn.never rfl (pi_list (pe_revL (pe_callB Nm.cr_sortedA rfl T.m_sorted (by decide +kernel) (pa_cons (pe_lc (own := [("row", 3)]) (g := gName 3) rfl sc.nd (pi_tup (pv 0)) (blkOk_by (own := [("row", 3)]) (N := ["game", "found", "size", "row", "side", "later", "good", "one", "word", "told"]) (sc := defScope s__law_results) (by decide +kernel)) (fun _ _ _ _ _ => (pg_name (i := 3) sc.nd rfl (Or.inl rfl))) (fun _ _ _ _ _ => pts_nil) (fun _ _ _ _ _ => (pe_callB (r := Nm.rLenS K) (id := "len") Nm.call_lenS rfl T.m_len (by decide +kernel) (pa_cons (pv 3) pa_nil)))) pa_nil)))) (pg_name (i := 2) sc.nd rfl (Or.inr rfl)) (pss_one (ps_for PassesOwn.never rfl (pi_list (pe_lc (own := [("one", 7)]) (g := gName 7) rfl sc.nd (pi_tup (pv 0)) (blkOk_by (own := [("one", 7)]) (N := ["game", "found", "size", "row", "side", "later", "good", "one", "word", "told"]) (sc := defScope s__law_results) (by decide +kernel)) (fun _ _ _ _ _ => (pg_name (i := 7) sc.nd rfl (Or.inl rfl))) (fun _ _ _ _ _ => (pts_one (PW.pt (pw_and (pt_cmpR op_eq (pe_callB (r := Nm.rLenS K) (id := "len") Nm.call_lenS rfl T.m_len (by decide +kernel) (pa_cons (pv 7) pa_nil)) (pv 2) (nomark _)) (pw_and1 (pt_cmp (pc_dnotin (hu_of hr) (pv 7) (pv 1)))))))) (fun _ _ _ _ _ => (pv 7)))) (pg_name (i := 3) sc.nd rfl (Or.inr rfl)) (pss_cons (ps_set (i := 4) sc.nd rfl (Or.inr rfl) (pe_op op_mod (pv 2) pe_int))
  (pss_cons (ps_setLc (i := 5) (own := [("word", 8)]) (g := gName 8) rfl sc.nd rfl rfl (sw_true rfl rfl rfl (by decide +kernel)) (pi_list (pe_c C__law_words hr (by omega) rfl (pa_cons (pv 0) (pa_cons (pv 3) pa_nil)))) (blkOk_by (own := [("word", 8)]) (N := ["game", "found", "size", "row", "side", "later", "good", "one", "word", "told"]) (sc := defScope s__law_results) (by decide +kernel)) (fun _ _ _ _ _ => (pg_name (i := 8) sc.nd rfl (Or.inl rfl))) (fun _ _ _ _ _ => pts_nil) (fun _ _ _ _ _ => (pe_dget (hu_of hr) (pv 1) (pe_op (r := rCatA K) op_catA (pv 3) (pe_tup (pa_cons (pv 8) pa_nil))) (fun _ _ => rfl))))
  (pss_cons (ps_setLc (i := 6) (own := [("told", 9)]) (g := gName 9) rfl sc.nd rfl rfl (sw_true rfl rfl rfl (by decide +kernel)) (pi_list (pv 5)) (blkOk_by (own := [("told", 9)]) (N := ["game", "found", "size", "row", "side", "later", "good", "one", "word", "told"]) (sc := defScope s__law_results) (by decide +kernel)) (fun _ _ _ _ _ => (pg_name (i := 9) sc.nd rfl (Or.inl rfl))) (fun _ _ _ _ _ => (pts_one (pt_cmpR op_eq (pe_ix (r := rIxT K) ix_tup (pv 9) pe_int (fun _ _ => rfl)) (pv 4) (nomark _)))) (fun _ _ _ _ _ => (pe_ix (r := rIxT K) ix_tup (pv 9) pe_int (fun _ _ => rfl))))
  (pss_one (ps_if (pt_cmpR op_gt (pe_callB (r := Nm.rLenS K) (id := "len") Nm.call_lenS rfl T.m_len (by decide +kernel) (pa_cons (pv 6) pa_nil)) pe_int (nomark _)) (pss_one (ps_dput (hu_of hr) (pv 1) (pv 3) (pe_tup (pa_cons (pv 4) (pa_cons (pe_op op_add pe_int (pe_callB (cr_min rfl) rfl T.m_min (by decide +kernel) (pa_cons (pv 6) pa_nil))) pa_nil))) rfl)) (pss_one (ps_if (pt_cmpR op_gt (pe_callB (r := Nm.rLenS K) (id := "len") Nm.call_lenS rfl T.m_len (by decide +kernel) (pa_cons (pv 5) pa_nil)) pe_int (nomark _)) (pss_one (ps_dput (hu_of hr) (pv 1) (pv 3) (pe_tup (pa_cons (pe_op op_sub pe_int (pv 4)) (pa_cons (pe_op op_add pe_int (pe_callB (cr_max rfl) rfl T.m_max (by decide +kernel) (pa_cons (pe_lc (own := [("told", 9)]) (g := gName 9) rfl sc.nd (pi_list (pv 5)) (blkOk_by (own := [("told", 9)]) (N := ["game", "found", "size", "row", "side", "later", "good", "one", "word", "told"]) (sc := defScope s__law_results) (by decide +kernel)) (fun _ _ _ _ _ => (pg_name (i := 9) sc.nd rfl (Or.inl rfl))) (fun _ _ _ _ _ => pts_nil) (fun _ _ _ _ _ => (pe_ix (r := rIxT K) ix_tup (pv 9) pe_int (fun _ _ => rfl)))) pa_nil))) pa_nil))) rfl)) (pss_one (ps_dput (hu_of hr) (pv 1) (pv 3) (pe_tup (pa_cons (pe_op op_sub pe_int (pv 4)) (pa_cons pe_int pa_nil))) rfl))))))))))))
  (pss_one (ps_ret (pv 1))))), ?_⟩
    obtain ⟨rs, gm, G, few, q⟩ := h
    obtain ⟨xs, ha, pa⟩ := id gm
    have el := paired_len pa
    have big : (100000 : Nat) < PySem.sizeLine := by decide
    refine fun D hD => ?_
    have g0 := same_new (o := .dT []) hD
    -- the sizes, the greatest first
    refine ⟨_, rfl, a, rfl, ⟨_, SqT.of (g0 _ _ ha)⟩, fun D1 hD1 => ?_⟩
    refine lcS (walk_tup (K := K) (a := a) (xs := xs)) stays_int rs (fun _ => true) (fun r => (r.length : Int)) el (by omega) (fun H2 g => SqT.of (g _ _ (g0 _ _ ha))) hD1 ?_ ?_
    · rintro i x ws H2 H3 Nx hw ⟨rfl, hx⟩ sm _ yes
      obtain ⟨ws', hw', y, rfl, hy⟩ := paired_at pa i _ hx
      have e : ws' = ws := Option.some.inj (hw'.symm.trans hw)
      subst e
      refine ⟨rfl, ?_⟩
      refine ⟨_, rfl, y, _, rfl, .inr (SqT.of (sm _ _ (g0 _ _ hy))), yes rfl _ _ (Same.refl _) ?_⟩
      rw [List.length_map]
      rfl
    intro H2 g2 l2
    rw [filter_all] at l2
    obtain ⟨us, hu, pu⟩ := l2
    rw [ints_vs pu] at hu
    refine ⟨D1, rs.map (fun r => (r.length : Int)), rfl, SqL.of hu, by rw [List.length_map]; omega, fun ns p pm up hp => ?_⟩
    have g3 := same_new (o := .lst (ns.map V.int)) hp
    refine ⟨p, ns.map V.int, rfl, SqL.of upd_same, fun p2 hp2 => ?_⟩
    have g4 := same_new (o := .lst (ns.map V.int).reverse) hp2
    have g024 := (g0.trans g2).trans (g3.trans g4)
    have hD4 : upd (upd H2 p (.lst (ns.map V.int))) p2 (.lst (ns.map V.int).reverse) D = some (.dT []) := (g3.trans g4) _ _ (g2 _ _ upd_same)
    have hp24 : upd (upd H2 p (.lst (ns.map V.int))) p2 (.lst (ns.map V.int).reverse) p2 = some (.lst (ns.reverse.map V.int)) := by
      rw [upd_same, List.map_reverse]
    generalize upd (upd H2 p (.lst (ns.map V.int))) p2 (.lst (ns.map V.int).reverse) = H4 at g024 hD4 hp24
    refine ⟨p2, rfl, ⟨_, SqL.of hp24⟩, ?_⟩
    have down : ns.reverse.Pairwise fun x y => y ≤ x := List.pairwise_reverse.mpr up
    have mns : ∀ r ∈ rs, (r.length : Int) ∈ ns.reverse := fun r hr => List.mem_reverse.mpr (pm.mem_iff.mpr (List.mem_map.mpr ⟨r, hr, rfl⟩))
    refine for_it (walk_list (K := K) (a := p2) (xs := ns.reverse.map V.int)) (fun i σ H5 => ∃ v2 v3 v4 v5 v6 v7 v8 v9, ∃ (ents : List (List Key × V)) (ks : List (List Str)), σ = [some (.ref a), some (.ref D), v2, v3, v4, v5, v6, v7, v8, v9] ∧ Same H H5 ∧ H5 p2 = some (.lst (ns.reverse.map V.int)) ∧ H5 D = some (.dT ents) ∧ ents.length ≤ ks.length ∧ ents.map (·.1) = ks.map keyRow ∧ ks.Nodup ∧ (∀ r, r ∈ ks ↔ r ∈ rs ∧ (r.length : Int) ∈ ns.reverse.take i) ∧ ∀ k ∈ ks, ∃ y, valV ents (keyRow k) = some y ∧ RcAt H5 y (rc rs k))
      ⟨none, none, none, none, none, none, none, none, [], [], rfl, g024, hp24, hD4, Nat.le_refl _, rfl, .nil, fun r => by simp, fun k hk => absurd hk (List.not_mem_nil)⟩ (fun i σ H5 _ ⟨_, _, _, _, _, _, _, _, _, _, _, _, h, _⟩ => SqL.of h) ?_ ?_
    rotate_left
    · rintro σ H5 ⟨v2, v3, v4, v5, v6, v7, v8, v9, ents, ks, rfl, g5, hp5, hD5, le5, hk5, nd5, mem5, vals5⟩
      refine ⟨_, rfl, q H5 D ⟨ents, hD5, fun k hk => vals5 k ((mem5 k).mpr ⟨hk, ?_⟩)⟩ g5⟩
      rw [List.length_map, List.take_length]
      exact mns k hk
    rintro i y σ H5 H6 hi ⟨v2, v3, v4, v5, v6, v7, v8, v9, ents, ks, rfl, g5, hp5, hD5, le5, hk5, nd5, mem5, vals5⟩ ⟨rfl, hy⟩
    obtain ⟨n, hn, rfl⟩ : ∃ n : Int, ns.reverse[i]? = some n ∧ y = .int n := by
      rw [List.getElem?_map] at hy
      cases e : ns.reverse[i]? with
      | none => rw [e] at hy; cases hy
      | some n => rw [e] at hy; exact ⟨n, rfl, (Option.some.inj hy).symm⟩
    -- longer rows are reckoned
    have before : ∀ r ∈ rs, n < (r.length : Int) → r ∈ ks := fun r hr lt => (mem5 r).mpr ⟨hr, by
      have m := mns r hr
      rw [← List.take_append_drop i ns.reverse] at m down
      rcases List.mem_append.mp m with h | h
      · exact h
      · have e : ns.reverse.drop i = n :: ns.reverse.drop (i + 1) := by
          obtain ⟨hlt, hv⟩ := List.getElem?_eq_some_iff.mp hn
          rw [List.drop_eq_getElem_cons hlt, hv]
        rw [e] at h down
        rcases List.mem_cons.mp h with z | z
        · omega
        · have := (List.pairwise_cons.mp (List.pairwise_append.mp down).2.1).1 _ z
          omega⟩
    have ha5 := g5 _ _ ha
    refine ⟨_, rfl, a, rfl, ⟨_, SqT.of ha5⟩, fun D2 hD2 => ?_⟩
    refine lcS (walk_tup (K := K) (a := a) (xs := xs)) stays_rw rs (fun r => decide ((r.length : Int) = n) && !decide (r ∈ ks)) (fun r => r) el (by omega) (fun H7 g7 => SqT.of (g7 _ _ ha5)) hD2 ?_ ?_
    · rintro i2 x2 ws H7 H8 Nx hw ⟨rfl, hx⟩ sm no yes
      obtain ⟨ws', hw', r, rfl, hr1⟩ := paired_at pa i2 _ hx
      have e : ws' = ws := Option.some.inj (hw'.symm.trans hw)
      subst e
      have hr7 := sm _ _ (g5 _ _ hr1)
      refine ⟨rfl, ?_⟩
      refine ⟨_, rfl, r, _, rfl, .inr (SqT.of hr7), _, rfl, rfl, _, rfl, ?_⟩
      rw [List.length_map, decI]
      cases c1 : decide ((ws'.length : Int) = n) with
      | false => exact iteF (no (by rw [c1]; rfl) _ (Same.refl _))
      | true =>
        refine iteT ?_
        refine ⟨_, rfl, _, rfl, D, valV ents (keyRow ws'), rfl, DGet.t (sm _ _ hD5) (by rw [kV_row]; exact hr7), ?_⟩
        rw [keys_isSome hk5]
        cases c2 : decide (ws' ∈ ks) with
        | true => exact ⟨false, rfl, iteF (no (by rw [c1, c2]; rfl) _ (Same.refl _))⟩
        | false => exact ⟨true, rfl, iteT ⟨_, rfl, yes (by rw [c1, c2]; rfl) _ _ (Same.refl _) ⟨r, rfl, hr7⟩⟩⟩
    intro H7 g7 l7
    rw [List.map_id'] at l7
    obtain ⟨zs, hz, pz⟩ := l7
    have nfl : (rs.filter fun r => decide ((r.length : Int) = n) && !decide (r ∈ ks)).Nodup := List.Pairwise.filter _ (bef_nodup G.up)
    have ofl : ∀ r ∈ rs.filter (fun r => decide ((r.length : Int) = n) && !decide (r ∈ ks)), r ∈ rs ∧ (r.length : Int) = n ∧ r ∉ ks := fun r hr => by
      obtain ⟨h1, h2⟩ := List.mem_filter.mp hr
      rw [Bool.and_eq_true] at h2
      refine ⟨h1, of_decide_eq_true h2.1, fun h => ?_⟩
      rw [decide_eq_true h] at h2
      cases h2.2
    have allfl : ∀ r ∈ rs, (r.length : Int) = n → r ∈ ks ∨ r ∈ rs.filter (fun r => decide ((r.length : Int) = n) && !decide (r ∈ ks)) := fun r hr e => by
      by_cases c : r ∈ ks
      · exact .inl c
      · exact .inr (List.mem_filter.mpr ⟨hr, by rw [decide_eq_true e, decide_eq_false c]; rfl⟩)
    generalize rs.filter (fun r => decide ((r.length : Int) = n) && !decide (r ∈ ks)) = fl at pz nfl ofl allfl
    have lz := paired_len pz
    have lfl : fl.length ≤ rs.length := List.Nodup.length_le_of_subset nfl fun r hr => (ofl r hr).1
    have lks : ks.length ≤ rs.length := List.Nodup.length_le_of_subset nd5 fun r hr => ((mem5 r).mp hr).1
    have g57 := g5.trans g7
    refine ⟨D2, rfl, ⟨_, SqL.of hz⟩, ?_⟩
    refine for_it (walk_list (K := K) (a := D2) (xs := zs)) (fun j σ H8 => ∃ v3 v4 v5 v6 v7 v8 v9, ∃ (ents : List (List Key × V)) (ks' : List (List Str)), σ = [some (.ref a), some (.ref D), some (.int n), v3, v4, v5, v6, v7, v8, v9] ∧ Same H H8 ∧ Tups H7 H8 ∧ H8 p2 = some (.lst (ns.reverse.map V.int)) ∧ H8 D2 = some (.lst zs) ∧ H8 D = some (.dT ents) ∧ ents.length ≤ ks'.length ∧ ents.map (·.1) = ks'.map keyRow ∧ ks'.Nodup ∧ (∀ r, r ∈ ks' ↔ r ∈ ks ∨ r ∈ fl.take j) ∧ ∀ k ∈ ks', ∃ y, valV ents (keyRow k) = some y ∧ RcAt H8 y (rc rs k))
      ⟨_, _, _, _, _, _, _, ents, ks, rfl, g57, fun _ _ h => h, g7 _ _ hp5, hz, g7 _ _ hD5, le5, hk5, nd5, fun r => by simp, fun k hk => by
        obtain ⟨y, e1, e2⟩ := vals5 k hk
        exact ⟨y, e1, stays_rc _ _ _ _ (tups_same g7) e2⟩⟩ (fun j σ H8 _ ⟨_, _, _, _, _, _, _, _, _, _, _, _, _, h, _⟩ => SqL.of h) ?_ ?_
    rotate_left
    · rintro σ H8 ⟨v3, v4, v5, v6, v7, v8, v9, ents', ks', rfl, g8, _, hp8, _, hD8, le8, hk8, nd8, mem8, vals8⟩
      refine ⟨_, _, _, _, _, _, _, _, ents', ks', rfl, g8, hp8, hD8, le8, hk8, nd8, fun r => ?_, vals8⟩
      rw [mem8 r, show zs.length = fl.length from lz, List.take_length, mem5 r, take_one hn, List.mem_append, List.mem_singleton]
      constructor
      · rintro (⟨h1, h2⟩ | h)
        · exact ⟨h1, .inl h2⟩
        · exact ⟨(ofl r h).1, .inr (ofl r h).2.1⟩
      · rintro ⟨h1, h2 | h2⟩
        · exact .inl ⟨h1, h2⟩
        · rcases allfl r h1 h2 with h | h
          · exact .inl ((mem5 r).mp h)
          · exact .inr h
    rintro j y σ H8 H9 hj ⟨v3, v4, v5, v6, v7, v8, v9, ents', ks', rfl, g8, tk8, hp8, hz8, hD8, le8, hk8, nd8, mem8, vals8⟩ ⟨rfl, hy⟩
    obtain ⟨row, hrow, r, rfl, hr7⟩ := paired_at pz j y hy
    obtain ⟨mrow, lrow, nrow⟩ := ofl row (List.mem_of_getElem? hrow)
    have rok := G.ok row mrow
    have hr8 := tk8 _ _ hr7
    have lks' : ks'.length ≤ rs.length := List.Nodup.length_le_of_subset nd8 fun r hr => ((mem8 r).mp hr).elim (fun h => ((mem5 r).mp h).1) fun h => (ofl r (List.mem_of_mem_take h)).1
    refine ⟨_, rfl, _, 2, rfl, rfl, (by show (0 : Int) < 2; decide), ?_⟩
    show gName 4 (.int (n % 2)) _ _ _
    -- what is told of the rows behind
    refine ⟨_, rfl, _, rfl, a, r, rfl, rs, row, gm.keep (tups_same g8), G, hr8, rok.2, few, fun pw H10 g10 hpw => ?_⟩
    have later : ∀ w ∈ wordsAt rs row, row ++ [w] ∈ nexts rs row := fun w hw => mem_nexts.mpr ⟨mem_words.mp hw, w, rfl⟩
    have lw : (wordsAt rs row).length ≤ 600 := by
      have e := congrArg List.length (nexts_words rs row)
      rw [List.length_map] at e
      have := List.length_filter_le (isNext row) rs
      unfold nexts at e
      omega
    refine ⟨pw, rfl, ⟨_, SqL.of hpw⟩, fun D3 hD3 => ?_⟩
    refine lcS (walk_list (K := K) (a := pw) (xs := (wordsAt rs row).map V.str)) stays_rc (wordsAt rs row) (fun _ => true) (fun w => rc rs (row ++ [w])) (List.length_map ..) (by omega) (fun H11 g11 => SqL.of (g11 _ _ hpw)) hD3 ?_ ?_
    · rintro j2 x2 w H11 H12 Nx hw ⟨rfl, hx2⟩ sm _ yes
      rw [List.getElem?_map, hw] at hx2
      cases hx2
      have ml := later w (List.mem_of_getElem? hw)
      have mk' : row ++ [w] ∈ ks' := (mem8 _).mpr (.inl (before _ (mem_nexts.mp ml).1 (by rw [nexts_len ml]; omega)))
      obtain ⟨yv, hyv, rcv⟩ := vals8 _ mk'
      have s11 := g10.trans sm
      refine ⟨rfl, ?_⟩
      refine ⟨_, rfl, _, rfl, _, rfl, (by show 1 ≤ PySem.sizeLine; decide), fun c hc => ?_⟩
      have gc := same_new (o := .tup [V.str w]) hc
      refine cat_tups (gc _ _ (s11 _ _ hr8)) upd_same (by rw [List.length_map]; have := rok.1; show row.length + 1 ≤ 4000; omega) fun b H13 g13 hb => ?_
      have hb' : H13 b = some (.tup ((keyRow (row ++ [w])).map kV)) := by
        rw [kV_row, List.map_append]
        exact hb
      have s13 := s11.trans (gc.trans g13)
      exact ⟨D, yv, rfl, hyv ▸ DGet.t (s13 _ _ hD8) hb', yes rfl _ _ (gc.trans g13) (stays_rc _ _ _ _ (tups_same s13) rcv)⟩
    intro H11 g11 l11
    rw [filter_all] at l11
    obtain ⟨ts, hT, pt⟩ := l11
    have etl : (wordsAt rs row).map (fun w => rc rs (row ++ [w])) = (nexts rs row).map (rc rs) := by
      rw [nexts_words, List.map_map]
      rfl
    rw [etl] at pt
    have egood : (((nexts rs row).map (rc rs)).filter fun t => decide (t.1 = n % 2)).map (·.2) = (((nexts rs row).map (val rs)).filter fun t => !t.1).map (·.2) := by
      rw [List.filter_map, List.filter_map, List.map_map, List.map_map]
      have e : (nexts rs row).filter ((fun t => decide (t.1 = n % 2)) ∘ rc rs) = (nexts rs row).filter ((fun t => !t.1) ∘ val rs) := List.filter_congr fun l hl => by
        show decide ((rc rs l).1 = n % 2) = !(val rs l).1
        rw [← lrow]
        exact rc_side hl
      rw [e]
      rfl
    have vrow : val rs row = stepV ((nexts rs row).map (val rs)) := val_eq rs rok.1
    have pos : ∀ t ∈ (nexts rs row).map (val rs), 0 ≤ t.2 := fun t ht => by
      obtain ⟨l, _, rfl⟩ := List.mem_map.mp ht
      exact val_pos rs l
    have snd : ((nexts rs row).map (rc rs)).map (·.2) = ((nexts rs row).map (val rs)).map (·.2) := by
      rw [List.map_map, List.map_map]
      rfl
    have lnx : (nexts rs row).length ≤ 600 := Nat.le_trans (List.length_filter_le _ _) (by omega)
    have ltl : ts.length = ((nexts rs row).map (rc rs)).length := paired_len pt
    have ltl2 : ((nexts rs row).map (rc rs)).length ≤ 600 := by rw [List.length_map]; exact lnx
    generalize (nexts rs row).map (rc rs) = tl at pt egood snd ltl ltl2
    generalize (nexts rs row).map (val rs) = told at egood vrow pos snd
    refine ⟨_, rfl, D3, rfl, ⟨_, SqL.of hT⟩, fun W1 hW1 => ?_⟩
    refine lcS (walk_list (K := K) (a := D3) (xs := ts)) stays_int tl (fun t => decide (t.1 = n % 2)) (fun t => t.2) ltl (by omega) (fun H12 g12 => SqL.of (g12 _ _ hT)) hW1 ?_ ?_
    · rintro j2 x2 t H12 H13 Nx ht ⟨rfl, hx2⟩ sm no yes
      obtain ⟨t', ht', rt, rfl, hrt⟩ := paired_at pt j2 _ hx2
      have e : t' = t := Option.some.inj (ht'.symm.trans ht)
      subst e
      have hrt2 := sm _ _ hrt
      refine ⟨rfl, ?_⟩
      refine ⟨_, rfl, rt, _, 0, .int t'.1, rfl, rfl, SqT.of hrt2, rfl, _, rfl, rfl, _, rfl, ?_⟩
      rw [decI]
      cases c : decide (t'.1 = n % 2) with
      | false => exact iteF (no c _ (Same.refl _))
      | true => exact iteT ⟨_, rfl, rt, _, 1, .int t'.2, rfl, rfl, SqT.of hrt2, rfl, yes c _ _ (Same.refl _) rfl⟩
    intro H12 g12 l12
    obtain ⟨ws, hW, pw2⟩ := l12
    rw [ints_vs pw2, egood] at hW
    have g812 := g10.trans (g11.trans g12)
    have hD12 := g812 _ _ hD8
    have hr12 := g812 _ _ hr8
    have kr : ∀ {H5 : Hp} {r5 : Addr} {ws : List Str}, H5 r5 = some (.tup (ws.map V.str)) → H5 r5 = some (.tup ((keyRow ws).map kV)) := fun h => by rw [kV_row]; exact h
    have done : ∀ (H13 : Hp) (y : V), Same H12 H13 → RcAt H13 y (rc rs row) → ∃ (ents2 : List (List Key × V)) (ks2 : List (List Str)), Same H (upd H13 D (.dT (putK ents' (keyRow row) y))) ∧ Tups H7 (upd H13 D (.dT (putK ents' (keyRow row) y))) ∧ upd H13 D (.dT (putK ents' (keyRow row) y)) p2 = some (.lst (ns.reverse.map V.int)) ∧ upd H13 D (.dT (putK ents' (keyRow row) y)) D2 = some (.lst zs) ∧ upd H13 D (.dT (putK ents' (keyRow row) y)) D = some (.dT ents2) ∧ ents2.length ≤ ks2.length ∧ ents2.map (·.1) = ks2.map keyRow ∧ ks2.Nodup ∧ (∀ r, r ∈ ks2 ↔ r ∈ ks ∨ r ∈ fl.take (j + 1)) ∧ ∀ k ∈ ks2, ∃ y', valV ents2 (keyRow k) = some y' ∧ RcAt (upd H13 D (.dT (putK ents' (keyRow row) y))) y' (rc rs k) := fun H13 y g13 rcy => by
      have g813 := g812.trans g13
      have hD13 := g813 _ _ hD8
      have td := tups_dT (vs := putK ents' (keyRow row) y) hD13
      have npD : p2 ≠ D := fun e => by
        rw [e, hD8] at hp8
        cases hp8
      have nzD : D2 ≠ D := fun e => by
        rw [e, hD8] at hz8
        cases hz8
      have kp := keys_put hk8 nd8 row y
      refine ⟨putK ents' (keyRow row) y, plusR ks' row, same_mut (g8.trans g813) hD, fun c us hc => td _ _ (g813 _ _ (tk8 _ _ hc)), by rw [upd_ne npD]; exact g813 _ _ hp8, by rw [upd_ne nzD]; exact g813 _ _ hz8, upd_same, ?_, kp, plusR_nd nd8 _, fun z => ?_, fun k hk => ?_⟩
      · have e := congrArg List.length kp
        rw [List.length_map, List.length_map] at e
        omega
      · rw [mem_plusR, mem8 z, take_one hrow, List.mem_append, List.mem_singleton, or_assoc]
      · by_cases c : k = row
        · subst c
          exact ⟨y, (valV_put ents' (keyRow k) (keyRow k) y).trans (if_pos rfl), stays_rc _ _ _ _ td rcy⟩
        · obtain ⟨y', hy', rc'⟩ := vals8 k ((mem_plusR.mp hk).resolve_right c)
          exact ⟨y', ((valV_put ents' (keyRow row) (keyRow k) y).trans (if_neg fun e => c (inr_inj.mp e))).trans hy', stays_rc _ _ _ _ (fun c us hc => td _ _ (g813 _ _ hc)) rc'⟩
    have el8 : ents'.length ≤ 1000 := by omega
    refine ⟨_, rfl, W1, _, rfl, .inl (SqL.of hW), _, _, rfl, rfl, _, rfl, ?_⟩
    rw [List.length_map]
    refine ite2 (fun z => ?_) (fun z => ?_)
    · have c : (told.filter fun t => !t.1).map (·.2) ≠ [] := fun e => by
        rw [e] at z
        cases z
      refine ⟨_, rfl, _, rfl, W1, (told.filter fun t => !t.1).map (·.2), rfl, SqL.of hW, List.length_pos_iff.mpr c, fun m hm hl => ?_⟩
      have ev : rc rs row = (n % 2, 1 + m) := by
        show (winS rs row, (val rs row).2) = _
        unfold winS
        rw [vrow, step_win c hm hl, if_pos rfl, lrow]
      refine ⟨_, _, rfl, rfl, two, fun t ht => ⟨_, rfl, _, rfl, D, _, rfl, DPut.t (same_new ht _ _ hD12) (kr (same_new ht _ _ hr12)) (by omega), ?_⟩⟩
      obtain ⟨e1, k1, rest⟩ := done _ (.ref t) (same_new ht) ⟨t, rfl, by rw [upd_same, ev]⟩
      exact ⟨_, _, _, _, _, _, _, e1, k1, rfl, rest⟩
    · have c : (told.filter fun t => !t.1).map (·.2) = [] := by
        cases e : (told.filter fun t => !t.1).map (·.2) with
        | nil => rfl
        | cons a b =>
          rw [e] at z
          exact absurd (decide_eq_true (show (0 : Int) < ((a :: b).length : Int) by rw [List.length_cons]; omega)) z
      have hT12 := g12 _ _ hT
      refine ⟨_, rfl, D3, _, rfl, .inl (SqL.of hT12), _, _, rfl, rfl, _, rfl, ?_⟩
      refine ite2 (fun z2 => ?_) (fun z2 => ?_)
      · refine ⟨_, rfl, _, _, rfl, rfl, ?_⟩
        refine ⟨_, rfl, D3, rfl, ⟨_, SqL.of hT12⟩, fun M1 hM1 => ?_⟩
        refine lcS (walk_list (K := K) (a := D3) (xs := ts)) stays_int tl (fun _ => true) (fun t => t.2) ltl (by omega) (fun H13 g13 => SqL.of (g13 _ _ hT12)) hM1 ?_ ?_
        · rintro j2 x2 t H13 H14 Nx ht ⟨rfl, hx2⟩ sm _ yes
          obtain ⟨t', ht', rt, rfl, hrt⟩ := paired_at pt j2 _ hx2
          have e : t' = t := Option.some.inj (ht'.symm.trans ht)
          subst e
          refine ⟨rfl, ?_⟩
          exact ⟨_, rfl, rt, _, 1, .int t'.2, rfl, rfl, SqT.of (sm _ _ (g12 _ _ hrt)), rfl, yes rfl _ _ (Same.refl _) rfl⟩
        intro H13 g13 l13
        rw [filter_all] at l13
        obtain ⟨ms, hM, pm2⟩ := l13
        rw [ints_vs pm2, snd] at hM
        have pl : 0 < (told.map (·.2)).length := by
          have e := congrArg List.length snd
          rw [List.length_map] at e
          have := of_decide_eq_true z2
          omega
        refine ⟨M1, told.map (·.2), rfl, SqL.of hM, pl, fun m hm hl => ?_⟩
        have ev : rc rs row = (1 - n % 2, 1 + m) := by
          show (winS rs row, (val rs row).2) = _
          have hm' : 1 + m ∈ told.map (fun t => 1 + t.2) := by
            obtain ⟨t, ht, rfl⟩ := List.mem_map.mp hm
            exact List.mem_map.mpr ⟨t, ht, rfl⟩
          have sv := step_lose c hm' (fun y hy => by
            obtain ⟨t, ht, rfl⟩ := List.mem_map.mp hy
            have := hl t.2 (List.mem_map.mpr ⟨t, ht, rfl⟩)
            omega) (fun y hy => by
            obtain ⟨t, ht, rfl⟩ := List.mem_map.mp hy
            have := pos t ht
            omega)
          unfold winS
          rw [vrow, sv, if_neg Bool.false_ne_true, lrow]
        refine ⟨_, _, rfl, rfl, two, fun t ht => ⟨_, rfl, _, rfl, D, _, rfl, DPut.t (same_new ht _ _ (g13 _ _ hD12)) (kr (same_new ht _ _ (g13 _ _ hr12))) (by omega), ?_⟩⟩
        obtain ⟨e1, k1, rest⟩ := done _ (.ref t) (g13.trans (same_new ht)) ⟨t, rfl, by rw [upd_same, ev]⟩
        exact ⟨_, _, _, _, _, _, _, e1, k1, rfl, rest⟩
      · have t0 : told = [] := by
          have e := congrArg List.length snd
          rw [List.length_map, List.length_map] at e
          have nz : ¬ (0 : Int) < (ts.length : Int) := fun h => z2 (decide_eq_true h)
          exact List.eq_nil_of_length_eq_zero (by omega)
        have ev : rc rs row = (1 - n % 2, 0) := by
          show (winS rs row, (val rs row).2) = _
          unfold winS
          rw [vrow, step_lose0 c (by rw [t0]; rfl), if_neg Bool.false_ne_true, lrow]
        refine ⟨_, rfl, _, _, rfl, rfl, two, fun t ht => ⟨_, rfl, _, rfl, D, _, rfl, DPut.t (same_new ht _ _ hD12) (kr (same_new ht _ _ hr12)) (by omega), ?_⟩⟩
        obtain ⟨e1, k1, rest⟩ := done _ (.ref t) (same_new ht) ⟨t, rfl, by rw [upd_same, ev]⟩
        exact ⟨_, _, _, _, _, _, _, e1, k1, rfl, rest⟩
end
end K07
namespace K07
open PySem L2 Nm
open C8 (Cal Mak pe_c pe_mk pe_gc)
open RZ (ItzT pi_zipA)
section
variable {P : Program} {w : World} {K : PySem.W.Frag} {mg : Str → Option Value} {base : Heap}
def sp_check_side (K : PySem.W.Frag) : Sp := fun vs H Q _ => ∃ (a : Addr) (x : Int), vs = [.ref a, .int x] ∧ ∃ rs, GmAt H a rs ∧ IsG rs ∧ (x = 0 ∨ x = 1) ∧ ∀ H', Same H H' → Q .non H'
theorem c_check_side (T : Txt K mg) : Cal P w K mg base 7 "check_side" (sp_check_side K) [] := by
  have C_check_game := c_check_game (P := P) (w := w) (base := base) T
  have C_is_side := c_is_side (P := P) (w := w) (base := base) T
  have sc := sc_check_side
  refine cal_of T.d_check_side sc (fun _ _ _ _ _ _ us hl => match us, hl with | [_, _], _ => rfl) (fun vs H Q E h => ?_) (fun f cdv A outer s H vs Q E hr h => ?_)
  · obtain ⟨a, x, rfl, _⟩ := h
    rfl
  · obtain ⟨a, x, rfl, h⟩ := h
    refine ⟨_, (pss_cons (ps_expr (pe_c C_check_game hr (by omega) rfl (pa_cons (pv 0) pa_nil)))
  (pss_one (ps_if (pt_not (pt_val (pe_c C_is_side hr (by omega) rfl (pa_cons (pv 1) pa_nil)))) (pss_one ps_never) pss_nil))), ?_⟩
    obtain ⟨rs, gm, G, h01, q⟩ := h
    refine ⟨_, rfl, a, rfl, rs, gm, G, fun H1 g1 => ?_⟩
    refine ⟨_, rfl, .int x, rfl, tyi_int _, within (.int x) 0 1, rfl, ?_⟩
    have e : within (.int x) 0 1 = true := by
      rcases h01 with rfl | rfl <;> rfl
    rw [e]
    exact iteF (q H1 g1)
end
end K07
namespace K07
open PySem L2 Nm
open C8 (Cal Mak pe_c pe_mk pe_gc)
open RZ (ItzT pi_zipA)
def PrAt (H : Hp) (y : V) (p : List Str × Int) : Prop := ∃ t r, y = .ref t ∧ H t = some (.tup [.ref r, .int p.2]) ∧ H r = some (.tup (p.1.map V.str))
theorem stays_pr : Stays PrAt := fun _ _ _ _ t ⟨a, r, e, h1, h2⟩ => ⟨a, r, e, t _ _ h1, t _ _ h2⟩
theorem none_of_same {H H' : Hp} {a : Addr} (g : Same H H') (h : H' a = none) : H a = none := by
  cases e : H a with
  | none => rfl
  | some o => rw [g _ _ e] at h; cases h
theorem kids_len (p : List Str × Int) : ∀ i, (kids p i).length ≤ i
  | 0 => Nat.le_refl 0
  | i + 1 => by
    show (kids p i ++ _).length ≤ i + 1
    rw [List.length_append]
    have := kids_len p i
    split
    · rw [List.length_singleton]
      omega
    · rw [List.length_nil]
      omega
theorem kids_deep {p q : List Str × Int} : ∀ {i : Nat}, q ∈ kids p i → q.1.length = p.1.length + 1
  | 0, h => absurd h (List.not_mem_nil)
  | i + 1, h => by
    rcases List.mem_append.mp h with h | h
    · exact kids_deep h
    · split at h
      · rw [List.mem_singleton.mp h]
        show (p.1 ++ [abc i]).length = _
        rw [List.length_append, List.length_singleton]
      · cases h
theorem heap_deep {n : Int} {p : List Str × Int} : ∀ {k : Nat}, p ∈ heapF n k → p.1.length ≤ k
  | 0, h => by rw [List.mem_singleton.mp h]; exact Nat.zero_le _
  | k + 1, h => by
    rcases List.mem_append.mp h with h | h
    · have := heap_deep h
      omega
    · cases e : (heapF n k)[k]? with
      | none => rw [e] at h; cases h
      | some q =>
        rw [e] at h
        have := heap_deep (List.mem_of_getElem? e)
        rw [kids_deep h]
        omega
structure HeapG (n : Nat) : Prop where
  few : (heapF n 200).length ≤ 180
  nd : ((heapF n 200).map (·.1)).Nodup
  mem : ∀ z, z ∈ (heapF n 200).map (·.1) ↔ z ∈ heapQ n
  isG : IsG (heapQ n)
theorem heap_g {n : Nat} (h : 6 ≤ n ∧ n < 9) : HeapG n := by
  have ok : heapOk2 n = true := by
    have : n = 6 ∨ n = 7 ∨ n = 8 := by omega
    rcases this with rfl | rfl | rfl
    · exact heap_ok6
    · exact heap_ok7
    · exact heap_ok8
  unfold heapOk2 at ok
  simp only [Bool.and_eq_true, decide_eq_true_eq] at ok
  obtain ⟨k1, k2, k3, k4, k5, k6, k7⟩ := ok
  have each : ∀ r ∈ heapQ n, r.dropLast ∈ heapQ n ∧ rwOk r := fun r hr => by
    have h := List.all_eq_true.mp k7 r hr
    rw [Bool.and_eq_true, Bool.and_eq_true] at h
    refine ⟨of_decide_eq_true h.1, of_decide_eq_true h.2.1, fun z hz => ?_⟩
    have w := List.all_eq_true.mp h.2.2 z hz
    rw [Bool.and_eq_true] at w
    exact ⟨w.1, of_decide_eq_true w.2⟩
  have mem : ∀ z, z ∈ (heapF n 200).map (·.1) ↔ z ∈ heapQ n := fun z => ⟨k4 z, k5 z⟩
  refine ⟨by rw [List.length_map] at k1; exact k1, k2, mem, ⟨k3, k6, fun r hr => (each r hr).1, fun r hr => (each r hr).2, ?_⟩⟩
  have l : (heapQ n).length ≤ ((heapF n 200).map (·.1)).length := List.Nodup.length_le_of_subset (bef_nodup k3) fun z hz => k5 z hz
  omega
theorem heap_few {n k : Nat} (h : 6 ≤ n ∧ n < 9) (k60 : k ≤ 200) : (heapF n k).length ≤ 180 := by
  have a := heap_len (n := n) (k := k) (200 - k)
  have b := (heap_g h).few
  rw [show k + (200 - k) = 200 by omega] at a
  omega
def heapW (n : Nat) (f0 : Addr) (H : Hp) (m : Nat) (σ : St) (H1 : Hp) : Prop := m ≤ 200 ∧ ∃ (fz : List V) (u3 u4 u5 : Option V), σ = [some (.int n), some (.ref f0), some (.int ((200 - m : Nat) : Int)), u3, u4, u5] ∧ Same H H1 ∧ H1 f0 = some (.lst fz) ∧ Paired (PrAt H1) fz (heapF n (200 - m)) ∧ 200 - m ≤ (heapF n (200 - m)).length
section
variable {P : Program} {w : World} {K : PySem.W.Frag} {mg : Str → Option Value} {base : Heap}
def sp__law_heap (K : PySem.W.Frag) : Sp := fun vs H Q _ => ∃ (n : Nat), vs = [.int n] ∧ (6 ≤ n ∧ n < 9) ∧ ∀ H' p, GmAt H' p (heapQ n) → Same H H' → Q (.ref p) H'
theorem c__law_heap (T : Txt K mg) : Cal P w K mg base 1 "_law_heap" (sp__law_heap K) [] := by
  have sc := sc__law_heap
  refine cal_of T.d__law_heap sc (fun _ _ _ _ _ _ us hl => match us, hl with | [_], _ => rfl) (fun vs H Q E h => ?_) (fun f cdv A outer s H vs Q E hr h => ?_)
  · obtain ⟨n, rfl, _⟩ := h
    rfl
  · obtain ⟨n, rfl, h⟩ := h
    refine ⟨_, (pss_cons (ps_set (i := 1) sc.nd rfl (Or.inl rfl) (pe_lst (pa_cons (pe_tup (pa_cons (pe_tup pa_nil) (pa_cons (pv 0) pa_nil))) pa_nil)))
  (pss_cons (ps_set (i := 2) sc.nd rfl (Or.inl rfl) pe_int)
  (pss_cons (ps_while PassesOwn.never (pt_cmpR op_lt (pv 2) (pe_callB (r := Nm.rLenS K) (id := "len") Nm.call_lenS rfl T.m_len (by decide +kernel) (pa_cons (pv 1) pa_nil)) (nomark _)) (pss_cons (ps_asg (pe_ix ix_list (pv 1) (pv 2) (fun _ _ => rfl)) (pg_tup rfl (pgs_cons (pg_name (i := 3) sc.nd rfl (Or.inl rfl)) (pgs_cons (pg_name (i := 4) sc.nd rfl (Or.inl rfl)) pgs_nil))))
  (pss_cons (ps_for PassesOwn.never rfl (pi_range2 rfl T.m_range (pa_cons pe_int (pa_cons pe_int pa_nil))) (pg_name (i := 5) sc.nd rfl (Or.inl rfl)) (pss_one (ps_if (pt_cmpR op_le (pv 5) (pv 4) (nomark _)) (pss_one (ps_expr (pe_bm PySem.F.plainAttrs_list PySem.F.slot_list_append PySem.F.type_list_append mt_append (pv 1) (pa_cons (pe_tup (pa_cons (pe_op op_catA (pv 3) (pe_tup (pa_cons (pe_ix ix_str pe_str (pe_op op_sub (pv 5) pe_int) (fun _ _ => rfl)) pa_nil))) (pa_cons (pe_op op_sub (pv 4) (pv 5)) pa_nil))) pa_nil)))) pss_nil)))
  (pss_one (ps_set (i := 2) sc.nd rfl (Or.inl rfl) (pe_op op_add (pv 2) pe_int))))))
  (pss_one (ps_ret (pe_callTy call_tuple_of rfl T.m_tuple (by decide +kernel) (pa_cons (pe_callB (NmD.cr_sortD (u66 hr)) rfl T.m_sorted (by decide +kernel) (pa_cons (pe_lc (own := [("row", 3), ("left", 4)]) (g := gTup K 2 (gCons (gName 3) (gCons (gName 4) gNil))) rfl sc.nd (pi_list (pv 1)) (blkOk_by (own := [("row", 3), ("left", 4)]) (N := ["number", "found", "at", "row", "left", "take"]) (sc := defScope s__law_heap) (by decide +kernel)) (fun _ _ _ _ _ => (pg_tup rfl (pgs_cons (pg_name (i := 3) sc.nd rfl (Or.inl rfl)) (pgs_cons (pg_name (i := 4) sc.nd rfl (Or.inl rfl)) pgs_nil)))) (fun _ _ _ _ _ => pts_nil) (fun _ _ _ _ _ => (pv 3))) pa_nil)) pa_nil))))))), ?_⟩
    obtain ⟨n7, q⟩ := h
    refine ⟨nought, fun e0 he0 => ⟨_, rfl, two, fun t0 ht0 => ⟨(by show 1 ≤ PySem.sizeLine; decide), fun f0 hf0 => ?_⟩⟩⟩
    have g1 := same_new (o := .tup []) he0
    have g2 := same_new (o := .tup [V.ref e0, .int n]) ht0
    have g3 := same_new (o := .lst [V.ref t0]) hf0
    have g13 := g1.trans (g2.trans g3)
    refine ⟨heapW n f0 H, ⟨200, Nat.le_refl _, [.ref t0], none, none, none, rfl, g13, upd_same, .cons ⟨t0, e0, rfl, g3 _ _ upd_same, g3 _ _ (g2 _ _ upd_same)⟩ .nil, Nat.zero_le _⟩, ?_⟩
    have hfn : H f0 = none := none_of_same (g1.trans g2) hf0
    rintro m σ H1 ⟨m60, fz, u3, u4, u5, rfl, gA, hf, pf, lk⟩
    have el := paired_len pf
    refine ⟨_, rfl, _, rfl, f0, _, rfl, .inl (SqL.of hf), _, _, rfl, rfl, _, rfl, ?_⟩
    refine ite2 (fun z => ?_) (fun z => ?_)
    · have lt : 200 - m < fz.length := by have := of_decide_eq_true z; omega
      obtain ⟨x, hx⟩ : ∃ x, fz[200 - m]? = some x := ⟨fz[200 - m], List.getElem?_eq_getElem lt⟩
      obtain ⟨p, hp, t, r, rfl, ht, hr1⟩ := paired_at pf _ x hx
      refine ⟨fun σ' H' => ∃ m', m' < m ∧ heapW n f0 H m' σ' H', fun _ _ h => h, ?_⟩
      refine ⟨_, rfl, _, rfl, f0, fz, _, .ref t, rfl, rfl, SqL.of hf, atI_nat hx, ?_⟩
      refine ⟨t, _, rfl, SqT.of ht, rfl, _, _, rfl, _, _, rfl, rfl, ?_⟩
      refine ⟨1, 4, rfl, ⟨by decide, by decide, by decide, by decide⟩, ?_⟩
      refine for_range (lo := 1) (n := 3) (fun i σ H2 => ∃ (gz : List V) (u5 : Option V), σ = [some (.int n), some (.ref f0), some (.int ((200 - m : Nat) : Int)), some (.ref r), some (.int p.2), u5] ∧ Same H H2 ∧ Tups H1 H2 ∧ H2 f0 = some (.lst gz) ∧ Paired (PrAt H2) gz (heapF n (200 - m) ++ kids p i)) ⟨fz, _, rfl, gA, fun _ _ h => h, hf, by rw [show kids p 0 = [] from rfl, List.append_nil]; exact pf⟩ ?_ ?_
      · rintro i σ H2 hi ⟨gz, u5, rfl, g2, tk2, hf2, pg⟩
        refine ⟨_, rfl, _, rfl, _, _, rfl, rfl, _, rfl, ?_⟩
        have e1 : (1 : Int) + (i : Int) = (i : Int) + 1 := Int.add_comm _ _
        have lg : gz.length ≤ 200 := by
          rw [paired_len pg, List.length_append]
          have := kids_len p i
          have := heap_few (k := 200 - m) n7 (by omega)
          omega
        refine ite2 (fun z2 => ?_) (fun z2 => ?_)
        · have c : (i : Int) + 1 ≤ p.2 := by have := of_decide_eq_true z2; omega
          have at' : atI (Str.ofString "abc").cps.toList (1 + (i : Int) - 1) = some (97 + i) := by
            have : i = 0 ∨ i = 1 ∨ i = 2 := by omega
            rcases this with rfl | rfl | rfl <;> decide +kernel
          refine ⟨_, rfl, .inl ⟨rfl, _, SqL.of hf2⟩, ?_⟩
          refine ⟨_, rfl, _, rfl, _, _, rfl, rfl, _, _, _, rfl, rfl, by decide, at', (by show 1 ≤ PySem.sizeLine; decide), fun d hd => ?_⟩
          have gd := same_new (o := .tup [V.str (abc i)]) hd
          have hr2 := tk2 _ _ hr1
          refine cat_tups (gd _ _ hr2) upd_same (by rw [List.length_map]; show p.1.length + 1 ≤ 4000; have := heap_deep (List.mem_of_getElem? hp); omega) fun b H5 g5 hb => ?_
          refine ⟨_, rfl, _, rfl, _, _, rfl, rfl, two, fun t2 ht2 => ?_⟩
          have gt := same_new (o := .tup [V.ref b, .int (p.2 - (1 + (i : Int)))]) ht2
          have g25 := gd.trans (g5.trans gt)
          have hf5 := g25 _ _ hf2
          refine ⟨f0, gz, .ref t2, rfl, rfl, hf5, Nat.lt_of_le_of_lt lg (by decide), ?_⟩
          have tl := tups_lst (vs := gz ++ [V.ref t2]) hf5
          refine ⟨gz ++ [.ref t2], _, rfl, same_mut (g2.trans g25) hfn, fun c us hc => tl _ _ (g25 _ _ (tk2 _ _ hc)), upd_same, ?_⟩
          rw [show kids p (i + 1) = kids p i ++ [(p.1 ++ [abc i], p.2 - ((i : Int) + 1))] from congrArg (kids p i ++ ·) (if_pos c), ← List.append_assoc]
          refine paired_snoc (paired_mono (fun _ _ => stays_pr _ _ _ _ fun c us hc => tl _ _ (g25 _ _ hc)) pg) ⟨t2, b, rfl, ?_, ?_⟩
          · rw [tl _ _ upd_same, e1]
          · refine tl _ _ (gt _ _ ?_)
            rw [hb, List.map_append]
            rfl
        · have c : ¬ (i : Int) + 1 ≤ p.2 := fun h => z2 (decide_eq_true (by omega))
          refine ⟨gz, _, rfl, g2, tk2, hf2, ?_⟩
          rw [show kids p (i + 1) = kids p i ++ [] from congrArg (kids p i ++ ·) (if_neg c), List.append_nil]
          exact pg
      · rintro σ H2 ⟨gz, u5, rfl, g2, tk2, hf2, pg⟩
        refine ⟨_, rfl, _, _, rfl, rfl, ?_⟩
        rw [← heap_next hp] at pg
        have m1 : 200 - (m - 1) = 200 - m + 1 := by
          have := heap_few (k := 200 - m) n7 (by omega)
          omega
        refine ⟨m - 1, by omega, by omega, gz, some (.ref r), some (.int p.2), u5, ?_, g2, hf2, by rw [m1]; exact pg, by rw [m1, heap_next hp, List.length_append]; omega⟩
        rw [m1]
        rfl
    · have stop : (heapF n (200 - m)).length ≤ 200 - m := by
        have h : ¬ ((200 - m : Nat) : Int) < (fz.length : Int) := fun h => z (decide_eq_true h)
        omega
      have e60 : heapF n 200 = heapF n (200 - m) := by
        have h := heap_stop stop m
        rw [show 200 - m + m = 200 by omega] at h
        exact h
      obtain ⟨few, nd, memr, isG⟩ := heap_g n7
      rw [← e60] at pf
      clear e60 stop lk
      generalize heapF (n : Int) 200 = ps at pf few nd memr
      have lf := paired_len pf
      refine ⟨_, rfl, f0, rfl, ⟨_, SqL.of hf⟩, fun D hD => ?_⟩
      refine lcS (walk_list (K := K) (a := f0) (xs := fz)) stays_rw ps (fun _ => true) (fun p => p.1) lf (by omega) (fun H3 g3 => SqL.of (g3 _ _ hf)) hD ?_ ?_
      · rintro i x p H3 H4 Nx hws ⟨rfl, hx⟩ sm _ yes
        obtain ⟨p', hw', t, r, rfl, ht, hr1⟩ := paired_at pf i _ hx
        have e : p' = p := Option.some.inj (hw'.symm.trans hws)
        subst e
        refine ⟨t, _, rfl, SqT.of (sm _ _ ht), rfl, _, _, rfl, _, _, rfl, rfl, rfl, ?_⟩
        exact ⟨_, rfl, yes rfl _ _ (Same.refl _) ⟨r, rfl, sm _ _ hr1⟩⟩
      intro H3 g3 l3
      rw [filter_all] at l3
      obtain ⟨us, hu, pu⟩ := l3
      have back : ∀ x ∈ us, ∃ ws, RwAt H3 x ws := fun x hx => by
        obtain ⟨i, hi⟩ := List.mem_iff_getElem?.mp hx
        obtain ⟨ws, _, h⟩ := paired_at pu i x hi
        exact ⟨ws, h⟩
      refine ⟨D, us, fun x => rowL (rowOf H3 x), rfl, SqL.of hu, fun x hx => ?_, fun x _ y _ => alike_rowL _ _, fun ys p srt stb hp => ⟨p, ys, rfl, .inl ⟨SqL.of upd_same, fun p2 hp2 => ?_⟩⟩⟩
      · obtain ⟨ws, r, rfl, hr⟩ := back x hx
        refine ⟨⟨r, rfl⟩, ?_, pure_rowL _, by rw [depth_rowL]; decide⟩
        show Dp K H3 (.ref r) (.tuple (rowL (rowOf H3 (.ref r))))
        rw [rowOf_at hr]
        exact dp_row hr
      · obtain ⟨s1, s2, s3⟩ := sorted_rows pu nd srt stb
        have g9 := (same_new (o := .lst ys) hp).trans (same_new (o := .tup ys) hp2)
        have eg : ys.map (rowOf H3) = heapQ n := rows_one s2 isG.up fun z => by rw [s3.mem_iff]; exact memr z
        rw [eg] at s1
        exact q _ p2 ⟨ys, upd_same, paired_mono (fun _ _ => stays_rw _ _ _ _ (tups_same g9)) s1⟩ (gA.trans (g3.trans g9))
end
end K07
namespace K07
open PySem L2 Nm
open C8 (Cal Mak pe_c pe_mk pe_gc)
open RZ (ItzT pi_zipA)
/-- a plan: the word that it tells at each of its rows -/
def PlAt (H : Hp) (D : Addr) (rs ks : List (List Str)) : Prop := ∃ ents : List (List Key × V), H D = some (.dT ents) ∧ RDict (fun y w => y = V.str w) ents ks (fun r => lastW (bestOf rs r))
theorem paired_last {α β : Type} {R : α → β → Prop} : ∀ {xs : List α} {ys : List β}, Paired R xs ys → xs ≠ [] → ∃ xs0 x ys0 y, xs = xs0 ++ [x] ∧ ys = ys0 ++ [y] ∧ Paired R xs0 ys0 ∧ R x y
  | _, _, .nil, h => absurd rfl h
  | _, _, .cons h .nil, _ => ⟨[], _, [], _, rfl, rfl, .nil, h⟩
  | _, _, .cons h (.cons h2 t), _ => by
    obtain ⟨xs0, x, ys0, y, e1, e2, p, r⟩ := paired_last (.cons h2 t) (List.cons_ne_nil _ _)
    exact ⟨_ :: xs0, x, _ :: ys0, y, by rw [e1]; rfl, by rw [e2]; rfl, .cons h p, r⟩
theorem lastW_best {rs : List (List Str)} {r : List Str} (h : bestOf rs r ∈ nexts rs r) : (bestOf rs r).map V.str = (r.map V.str) ++ [V.str (lastW (bestOf rs r))] := by
  obtain ⟨_, w, e⟩ := mem_nexts.mp h
  rw [e, lastW_snoc, List.map_append]
  rfl
section
variable {P : Program} {w : World} {K : PySem.W.Frag} {mg : Str → Option Value} {base : Heap}
def sp_plan (K : PySem.W.Frag) : Sp := fun vs H Q _ => ∃ (a : Addr) (x : Int), vs = [.ref a, .int x] ∧ ∃ rs, GmAt H a rs ∧ IsG rs ∧ (x = 0 ∨ x = 1) ∧ (winS rs [] = x → ∀ H' D Dn ks, PlAt H' D rs ks → PlS rs x [] Dn ks → H D = none → Same H H' → Q (.ref D) H') ∧ (winS rs [] ≠ x → ∀ H', Same H H' → Q .non H')
theorem c_plan (T : Txt K mg) : Cal P w K mg base 8 "plan" (sp_plan K) [] := by
  have C_check_side := c_check_side (P := P) (w := w) (base := base) T
  have C_mover := c_mover (P := P) (w := w) (base := base) T
  have C_next_rows := c_next_rows (P := P) (w := w) (base := base) T
  have C_solved := c_solved (P := P) (w := w) (base := base) T
  have sc := sc_plan
  refine cal_of T.d_plan sc (fun _ _ _ _ _ _ us hl => match us, hl with | [_, _], _ => rfl) (fun vs H Q E h => ?_) (fun f cdv A outer s H vs Q E hr h => ?_)
  · obtain ⟨a, x, rfl, _⟩ := h
    rfl
  · obtain ⟨a, x, rfl, h⟩ := h
    refine ⟨_, (pss_cons (ps_expr (pe_c C_check_side hr (by omega) rfl (pa_cons (pv 0) (pa_cons (pv 1) pa_nil))))
  (pss_cons (ps_set (i := 2) sc.nd rfl (Or.inr rfl) (pe_c C_solved hr (by omega) rfl (pa_cons (pv 0) pa_nil)))
  (pss_cons (ps_if (pt_cmpR op_ne (pe_ix ix_tup (pe_dget (hu_of hr) (pv 2) (pe_tup pa_nil) (fun _ _ => rfl)) pe_int (fun _ _ => rfl)) (pe_cmpR op_eq (pv 1) pe_int (nomark _)) (nomark _)) (pss_one (ps_ret pe_non)) pss_nil)
  (pss_cons (ps_set (i := 3) sc.nd rfl (Or.inl rfl) (pe_c C_next_rows hr (by omega) rfl (pa_cons (pv 0) pa_nil)))
  (pss_cons (ps_set (i := 4) sc.nd rfl (Or.inl rfl) pe_dnewT)
  (pss_cons (ps_set (i := 5) sc.nd rfl (Or.inl rfl) (pe_lst (pa_cons (pe_tup pa_nil) pa_nil)))
  (pss_cons (ps_while PassesOwn.never (pt_truth (pv 5) (fun _ => rfl)) (pss_cons (ps_set (i := 6) sc.nd rfl (Or.inl rfl) (pe_bm0 PySem.F.plainAttrs_list PySem.F.slot_list_pop PySem.F.type_list_pop mt_pop (pv 5)))
  (pss_one (ps_if (pt_cmpR op_eq (pe_c C_mover hr (by omega) rfl (pa_cons (pv 6) pa_nil)) (pv 1) (nomark _)) (pss_cons (ps_set (i := 7) sc.nd rfl (Or.inl rfl) (pe_ix ix_list (pe_lc (own := [("longer", 8)]) (g := gName 8) rfl sc.nd (pi_list (pe_dget (hu_of hr) (pv 3) (pv 6) (fun _ _ => rfl))) (blkOk_by (own := [("longer", 8)]) (N := ["game", "side", "verdicts", "after", "words", "waiting", "row", "best", "longer"]) (sc := defScope s_plan) (by decide +kernel)) (fun _ _ _ _ _ => (pg_name (i := 8) sc.nd rfl (Or.inl rfl))) (fun _ _ _ _ _ => (pts_one (pt_not (pt_val (pe_ix (r := rIxT K) ix_tup (pe_dget (hu_of hr) (pv 2) (pv 8) (fun _ _ => rfl)) pe_int (fun _ _ => rfl)))))) (fun _ _ _ _ _ => (pv 8))) pe_int (fun _ _ => rfl)))
  (pss_cons (ps_dput (hu_of hr) (pv 4) (pv 6) (pe_ix ix_tup (pv 7) (pe_un un_neg pe_int) (fun _ _ => rfl)) rfl)
  (pss_one (ps_expr (pe_bm PySem.F.plainAttrs_list PySem.F.slot_list_append PySem.F.type_list_append mt_append (pv 5) (pa_cons (pv 7) pa_nil)))))) (pss_one (ps_expr (pe_bm PySem.F.plainAttrs_list PySem.F.slot_list_extend PySem.F.type_list_extend mt_extend (pv 5) (pa_cons (pe_dget (hu_of hr) (pv 3) (pv 6) (fun _ _ => rfl)) pa_nil))))))))
  (pss_one (ps_ret (pv 4)))))))))), ?_⟩
    obtain ⟨rs, gm, G, h01, q1, q2⟩ := h
    have few := G.few
    have big : (100000 : Nat) < PySem.sizeLine := by decide
    refine ⟨_, rfl, _, rfl, a, x, rfl, rs, gm, G, h01, fun H1 g1 => ?_⟩
    refine ⟨_, rfl, a, rfl, rs, gm.keep (tups_same g1), G, fun H2 V1 vd2 g2 => ?_⟩
    have g12 := g1.trans g2
    obtain ⟨entV, hV, vals⟩ := id vd2
    obtain ⟨y0, hy0, t0, rfl, ht0⟩ := vals [] G.nil
    refine ⟨_, rfl, nought, fun e0 he0 => ?_⟩
    have ge := same_new (o := .tup []) he0
    refine ⟨V1, .ref t0, rfl, hy0 ▸ DGet.t (ge _ _ hV) (by rw [kV_row]; exact upd_same), t0, _, 0, .bl (val rs []).1, rfl, rfl, SqT.of (ge _ _ ht0), rfl, ?_⟩
    refine ⟨_, rfl, rfl, rfl, _, rfl, ?_⟩
    by_cases hw0 : winS rs [] = x
    rotate_left
    · have vn : (val rs []).1 ≠ decide (V.int x = V.int 0) := fun e => hw0 (by
        rw [decI] at e
        unfold winS
        rw [e]
        rcases h01 with rfl | rfl <;> rfl)
      refine ite2 (fun _ => q2 hw0 _ (g12.trans ge)) (fun z => ?_)
      exact absurd (by
        show (!decide (V.bl (val rs []).1 = V.bl (decide (V.int x = V.int 0)))) = true
        rw [decide_eq_false (fun e => vn (V.bl.inj e))]
        rfl) z
    have q := q1 hw0
    have v0 : (val rs []).1 = decide (V.int x = V.int 0) := by
      unfold winS at hw0
      rw [decI]
      cases e : (val rs []).1 with
      | true =>
        rw [e, if_pos rfl] at hw0
        exact (decide_eq_true (show x = 0 from hw0.symm)).symm
      | false =>
        rw [e, if_neg Bool.false_ne_true] at hw0
        exact (decide_eq_false (show ¬ x = 0 from fun z => by rw [z] at hw0; exact absurd hw0 (by decide))).symm
    rw [v0]
    refine ite2 (fun z => ?_) (fun _ => ?_)
    · have z' : (!decide (V.bl (decide (V.int x = V.int 0)) = V.bl (decide (V.int x = V.int 0)))) = true := z
      rw [decide_eq_true rfl] at z'
      cases z'
    refine ⟨_, rfl, a, rfl, rs, gm.keep (tups_same (g12.trans ge)), G, fun H3 A nx3 g3 => ?_⟩
    have vd3 := vd2.same (ge.trans g3)
    have g13 := g12.trans (ge.trans g3)
    clear vd2 hV vals hy0 ht0 g3 ge
    refine fun D hD => ⟨nought, fun e1 he1 => ⟨(by show 1 ≤ PySem.sizeLine; decide), fun w hw => ?_⟩⟩
    have hDn3 := hD
    have k1 := same_new (o := .dT []) hD
    have k2 := same_new (o := .tup []) he1
    have k3 := same_new (o := .lst [V.ref e1]) hw
    have hw3 : H3 w = none := (k1.trans k2).free hw
    have nDw : D ≠ w := fun e => by
      rw [← e, k2 _ _ upd_same] at hw
      cases hw
    have hD0 : upd (upd (upd H3 D (.dT [])) e1 (.tup [])) w (.lst [V.ref e1]) D = some (.dT []) := (k2.trans k3) _ _ upd_same
    have he0' : upd (upd (upd H3 D (.dT [])) e1 (.tup [])) w (.lst [V.ref e1]) e1 = some (.tup []) := k3 _ _ upd_same
    have hw0' : upd (upd (upd H3 D (.dT [])) e1 (.tup [])) w (.lst [V.ref e1]) w = some (.lst [V.ref e1]) := upd_same
    have k13 := k1.trans (k2.trans k3)
    generalize upd (upd (upd H3 D (.dT [])) e1 (.tup [])) w (.lst [V.ref e1]) = H4 at hD0 he0' hw0' k13
    obtain ⟨entA, hA, nxs⟩ := id nx3
    obtain ⟨entW, hV3, vals3⟩ := id vd3
    refine ⟨fun m σ H5 => ∃ v6 v7 v8 Wt Dn, ∃ (zs : List V) (ents : List (List Key × V)) (ks : List (List Str)), σ = [some (.ref a), some (.int x), some (.ref V1), some (.ref A), some (.ref D), some (.ref w), v6, v7, v8] ∧ Same H3 H5 ∧ H5 w = some (.lst zs) ∧ Paired (RwAt H5) zs Wt ∧ H5 D = some (.dT ents) ∧ ents.length ≤ Dn.length ∧ RDict (fun y w => y = V.str w) ents ks (fun r => lastW (bestOf rs r)) ∧ PlS rs x Wt Dn ks ∧ m + Dn.length = 601,
      ⟨601, none, none, none, [[]], [], [V.ref e1], [], [], rfl, k13, hw0', .cons ⟨e1, rfl, he0'⟩ .nil, hD0, Nat.le_refl _, ⟨rfl, .nil, fun e he => absurd he (List.not_mem_nil)⟩, ?_, rfl⟩, ?_⟩
    · refine ⟨List.pairwise_singleton _ _, fun r hr => ?_, List.mem_singleton.mpr rfl, fun r hr => absurd hr (List.not_mem_nil), fun r hr => absurd hr (List.not_mem_nil), fun r hr ne => absurd (List.mem_singleton.mp hr) ne, fun r hr => absurd hr (List.not_mem_nil)⟩
      have e : r = [] := List.mem_singleton.mp hr
      rw [e]
      exact ⟨G.nil, hw0⟩
    rintro m σ H5 ⟨v6, v7, v8, Wt, Dn, zs, ents, ks, rfl, g5, hw5, pz, hD5, le5, rd, P, em⟩
    have lz := paired_len pz
    have lP := P.len
    refine ⟨_, rfl, _, .inl ⟨_, SqL.of hw5, rfl⟩, ?_⟩
    cases hzs : zs.isEmpty with
    | true =>
      have z0 : zs = [] := List.isEmpty_iff.mp hzs
      have w0 : Wt = [] := by
        rw [z0] at lz
        exact List.eq_nil_of_length_eq_zero lz.symm
      subst w0
      refine iteF ⟨_, rfl, ?_⟩
      exact q H5 D Dn ks ⟨ents, hD5, rd⟩ P (g13.free hDn3) (g13.trans g5)
    | false =>
      have zne : zs ≠ [] := fun e => by
        rw [e] at hzs
        cases hzs
      obtain ⟨zs0, y, W0, row, rfl, rfl, p0, r, rfl, hr5⟩ := paired_last pz zne
      refine iteT ⟨_, fun σ' H' h => h, ?_⟩
      have hrow := P.sub row (List.mem_append_left _ (List.mem_append_right _ List.mem_cons_self))
      have rok := G.ok row hrow.1
      refine ⟨_, rfl, .inl ⟨rfl, _, SqL.of hw5⟩, w, zs0 ++ [.ref r], .ref r, rfl, rfl, hw5, ?_, ?_⟩
      · rw [List.length_append, List.length_singleton, Nat.add_sub_cancel, List.getElem?_append_right (Nat.le_refl _), Nat.sub_self]
        rfl
      rw [List.dropLast_concat]
      have g6 : Same H3 (upd H5 w (.lst zs0)) := same_mut g5 hw3
      have tl := tups_lst (vs := zs0) hw5
      have hw6 : upd H5 w (.lst zs0) w = some (.lst zs0) := upd_same
      have hD6 : upd H5 w (.lst zs0) D = some (.dT ents) := by
        rw [upd_ne nDw]
        exact hD5
      have hr6 := tl _ _ hr5
      have p6 := paired_mono (fun _ _ => stays_rw _ _ _ _ tl) p0
      generalize upd H5 w (.lst zs0) = H6 at g6 hw6 hD6 hr6 p6
      clear tl hw5 hD5 hr5 pz p0 g5
      refine ⟨_, rfl, r, row, rfl, hr6, rok, fun H7 g7 => ⟨_, rfl, rfl, _, rfl, ?_⟩⟩
      rw [decI]
      have g37 := g6.trans g7
      have kr : ∀ {H5 : Hp} {r5 : Addr} {ws : List Str}, H5 r5 = some (.tup (ws.map V.str)) → H5 r5 = some (.tup ((keyRow ws).map kV)) := fun h => by rw [kV_row]; exact h
      obtain ⟨qa, us, eA, hqa, pu⟩ := nxs row hrow.1
      have lu := paired_len pu
      have ln : (nexts rs row).length ≤ 600 := Nat.le_trans (List.length_filter_le _ _) few
      have eWt : (W0 ++ [row]).length = W0.length + 1 := by rw [List.length_append, List.length_singleton]
      have l0 : zs0.length = W0.length := paired_len p6
      by_cases hm : (row.length : Int) % 2 = x
      · rw [decide_eq_true hm]
        obtain ⟨b1, b2, b3, b4⟩ := best_ok rok.1 hrow.2 hm
        refine iteT ?_
        have hA7 := g37 _ _ hA
        refine ⟨_, rfl, _, rfl, A, .ref qa, rfl, eA ▸ DGet.t hA7 (kr (g7 _ _ hr6)), qa, rfl, ⟨_, SqL.of (g37 _ _ hqa)⟩, fun D5 hD5' => ?_⟩
        refine lcS (walk_list (K := K) (a := qa) (xs := us)) stays_rw (nexts rs row) (fun l => !(val rs l).1) (fun l => l) lu (by omega) (fun H8 g8 => SqL.of (g8 _ _ (g37 _ _ hqa))) hD5' ?_ ?_
        · rintro i2 x2 l H8 H9 Nx hl ⟨rfl, hx2⟩ sm no yes
          obtain ⟨l', hl', rl, rfl, hrl⟩ := paired_at pu i2 _ hx2
          have e : l' = l := Option.some.inj (hl'.symm.trans hl)
          subst e
          have ml := (mem_nexts.mp (List.mem_of_getElem? hl)).1
          obtain ⟨yv, hyv, tv, rfl, htv⟩ := vals3 l' ml
          have g38 := g37.trans sm
          refine ⟨rfl, ?_⟩
          refine ⟨_, rfl, _, rfl, V1, .ref tv, rfl, hyv ▸ DGet.t (g38 _ _ hV3) (kr (g38 _ _ hrl)), tv, _, 0, .bl (val rs l').1, rfl, rfl, SqT.of (g38 _ _ htv), rfl, (val rs l').1, rfl, ?_⟩
          cases c : (val rs l').1 with
          | true => exact iteF (no (by rw [c]; rfl) _ (Same.refl _))
          | false => exact iteT ⟨_, rfl, yes (by rw [c]; rfl) _ _ (Same.refl _) ⟨rl, rfl, g38 _ _ hrl⟩⟩
        intro H8 g8 l8
        rw [List.map_id'] at l8
        obtain ⟨bs, hB8, pb⟩ := l8
        obtain ⟨yb, hyb, rb⟩ : ∃ yb, bs[0]? = some yb ∧ RwAt H8 yb (bestOf rs row) := by
          generalize (nexts rs row).filter (fun l => !(val rs l).1) = fs at pb b4
          cases pb with
          | nil => cases b4
          | cons h t =>
            have e := Option.some.inj b4
            exact ⟨_, rfl, by rw [← e]; exact h⟩
        obtain ⟨rb, rfl, hrb⟩ := rb
        have g38 := g37.trans g8
        refine ⟨D5, bs, 0, .ref rb, rfl, rfl, SqL.of hB8, atI_nat (j := 0) hyb, ?_⟩
        have hrb' := hrb
        rw [lastW_best b1] at hrb'
        refine ⟨_, rfl, 1, rfl, rb, _, -1, .str (lastW (bestOf rs row)), rfl, rfl, SqT.of hrb', ?_, ?_⟩
        · unfold atI ixN
          rw [List.length_append, List.length_singleton, if_neg (by decide), if_pos (by omega)]
          rw [show ((-1 : Int) + (((row.map V.str).length + 1 : Nat) : Int)).toNat = (row.map V.str).length by omega]
          show ((row.map V.str) ++ [V.str (lastW (bestOf rs row))])[(row.map V.str).length]? = _
          rw [List.getElem?_append_right (Nat.le_refl _), Nat.sub_self]
          rfl
        have g68 := g7.trans g8
        have hD8 := g68 _ _ hD6
        have more := length_putK ents (keyRow row) (V.str (lastW (bestOf rs row)))
        refine ⟨_, rfl, _, rfl, D, _, rfl, DPut.t hD8 (kr (g68 _ _ hr6)) (by omega), ?_⟩
        have td := tups_dT (vs := putK ents (keyRow row) (V.str (lastW (bestOf rs row)))) hD8
        have hw9 : upd H8 D (.dT (putK ents (keyRow row) (V.str (lastW (bestOf rs row))))) w = some (.lst zs0) := by
          rw [upd_ne (fun e => nDw e.symm)]
          exact g68 _ _ hw6
        refine ⟨_, rfl, .inl ⟨rfl, _, SqL.of hw9⟩, _, rfl, w, zs0, .ref rb, rfl, rfl, hw9, by omega, ?_⟩
        have tw := tups_lst (vs := zs0 ++ [V.ref rb]) hw9
        have tk : Tups H6 (upd (upd H8 D (.dT (putK ents (keyRow row) (V.str (lastW (bestOf rs row)))))) w (.lst (zs0 ++ [V.ref rb]))) := fun c us hc => tw _ _ (td _ _ (g68 _ _ hc))
        have hDn : H3 D = none := hDn3
        have put := rd.put row (y := V.str (lastW (bestOf rs row))) (c := lastW (bestOf rs row)) rfl
        have ef : (fun z => if z = row then lastW (bestOf rs row) else (fun r => lastW (bestOf rs r)) z) = fun r => lastW (bestOf rs r) := by
          funext z
          by_cases c : z = row
          · rw [if_pos c, c]
          · rw [if_neg c]
        rw [ef] at put
        refine ⟨m - 1, by omega, _, _, _, W0 ++ [bestOf rs row], row :: Dn, zs0 ++ [V.ref rb], _, plusR ks row, rfl, same_mut (same_mut g38 hDn) hw3, upd_same, paired_snoc (paired_mono (fun _ _ => stays_rw _ _ _ _ tk) p6) ⟨rb, rfl, tw _ _ (td _ _ hrb)⟩, ?_, ?_, put, ?_, ?_⟩
        · rw [upd_ne nDw]
          exact upd_same
        · rw [List.length_cons]
          omega
        · refine P.step (List.pairwise_singleton _ _) (fun l hl => by rw [List.mem_singleton.mp hl]; exact ⟨b1, b3⟩) (fun _ => ⟨mem_plusR.mpr (.inr rfl), List.mem_cons_self, fun l hl => List.mem_singleton.mp hl⟩) (fun z => absurd hm z) (fun z hz => ?_) (fun z hz => mem_plusR.mpr (.inl hz))
          rcases mem_plusR.mp hz with h | h
          · exact .inl h
          · exact .inr ⟨h, hm⟩
        · rw [List.length_cons]
          omega
      · rw [decide_eq_false hm]
        refine iteF ?_
        have hw7 := g7 _ _ hw6
        have hq7 := g37 _ _ hqa
        refine ⟨_, rfl, .inl ⟨rfl, _, SqL.of hw7⟩, _, rfl, _, rfl, A, .ref qa, rfl, eA ▸ DGet.t (g37 _ _ hA) (kr (g7 _ _ hr6)), w, qa, zs0, us, rfl, rfl, hw7, hq7, by omega, ?_⟩
        have tw := tups_lst (vs := zs0 ++ us) hw7
        refine ⟨m - 1, by omega, _, _, _, W0 ++ nexts rs row, row :: Dn, zs0 ++ us, ents, ks, rfl, same_mut g37 hw3, upd_same, paired_app (paired_mono (fun _ _ => stays_rw _ _ _ _ fun c us hc => tw _ _ (g7 _ _ hc)) p6) (paired_mono (fun _ _ => stays_rw _ _ _ _ fun c us hc => tw _ _ (g37 _ _ hc)) pu), ?_, ?_, rd, ?_, ?_⟩
        · rw [upd_ne nDw]
          exact g7 _ _ hD6
        · rw [List.length_cons]
          omega
        · have ow := oth_ok rok.1 h01 hrow.2 hm
          exact P.step (nexts_nd G.up row) (fun l hl => ⟨hl, ow l hl⟩) (fun z => absurd z hm) (fun _ l hl => hl) (fun z hz => .inl hz) (fun z hz => hz)
        · rw [List.length_cons]
          omega
end
end K07
namespace K07
open PySem L2 Nm
open C8 (Cal Mak pe_c pe_mk pe_gc)
open RZ (ItzT pi_zipA)
theorem same_lock {H H' : Hp} {D od : Addr} {o : Obj} {u : HO} (hd : H D = some u) (g : Same (upd H D (.frz o u)) H') : Same H (upd H' D u) := fun b v hb => by
  by_cases c : b = D
  · subst c
    rw [upd_same]
    exact hd.symm.trans hb
  · rw [upd_ne c]
    exact g _ _ (by rw [upd_ne c]; exact hb)
theorem tups_lock {H : Hp} {D : Addr} {o : Obj} {ents : List (List Key × V)} (hd : H D = some (.dT ents)) : Tups H (upd H D (.frz o (.dT ents))) := fun e us he => by
  rw [upd_ne (fun z => by rw [z, hd] at he; cases he)]
  exact he
/-- a plan that is one -/
structure PlanOk (rs : List (List Str)) (x : Int) (ks : List (List Str)) (wf : List Str → Str) : Prop where
  key : ∀ k ∈ ks, k ∈ rs ∧ (k.length : Int) % 2 = x
  next : ∀ k ∈ ks, k ++ [wf k] ∈ rs
section
variable {P : Program} {w : World} {K : PySem.W.Frag} {mg : Str → Option Value} {base : Heap}
def sp_is_plan (K : PySem.W.Frag) : Sp := fun vs H Q _ => ∃ (a : Addr) (x : Int) (D : Addr), vs = [.ref a, .int x, .ref D] ∧ ∃ rs ents ks wf, GmAt H a rs ∧ IsG rs ∧ H D = some (.dT ents) ∧ RDict (fun y w => y = V.str w) ents ks wf ∧ PlanOk rs x ks wf ∧ ∀ H', Same H H' → Q (.bl true) H'
theorem c_is_plan (T : Txt K mg) : Cal P w K mg base 6 "is_plan" (sp_is_plan K) [] := by
  have C_is_row := c_is_row (P := P) (w := w) (base := base) T
  have C_is_word := c_is_word (P := P) (w := w) (base := base) T
  have C_mover := c_mover (P := P) (w := w) (base := base) T
  have sc := sc_is_plan
  refine cal_of T.d_is_plan sc (fun _ _ _ _ _ _ us hl => match us, hl with | [_, _, _], _ => rfl) (fun vs H Q E h => ?_) (fun f cdv A outer s H vs Q E hr h => ?_)
  · obtain ⟨a, x, D, rfl, _⟩ := h
    rfl
  · obtain ⟨a, x, D, rfl, h⟩ := h
    obtain ⟨rs, ents, ks, wf, gm, G, hD, rd, P, q⟩ := h
    refine ⟨_, (pss_cons (ps_if (pt_not (pt_val (pe_callB call_isi rfl T.m_isinstance (by decide +kernel) (pa_cons (pv 2) (pa_cons (pe_bltn (v := .ty "dict") (u := .type "dict") rfl T.m_dict (by decide +kernel) rfl) pa_nil))))) (pss_one (ps_ret pe_bl)) pss_nil)
  (pss_cons (Nm.ps_setDcT (i := 3) (own := [("row", 4)]) (g := gName 4) rfl sc.nd (hu_of hr) rfl rfl (Nm.swd_true rfl rfl rfl (by decide +kernel)) (pi_tup (pv 0)) (blkOk_by (own := [("row", 4)]) (N := ["game", "side", "thing", "rows", "row", "word"]) (sc := defScope s_is_plan) (by decide +kernel)) (fun _ _ _ _ _ => (pg_name (i := 4) sc.nd rfl (Or.inl rfl))) (fun _ _ _ _ _ => (pv 4)) (fun _ _ _ _ _ => pe_bl))
  (pss_cons (ps_lock (ps_for PassesOwn.never rfl (Nm.pi_itemsT (pv 2)) (pg_tup rfl (pgs_cons (pg_name (i := 4) sc.nd rfl (Or.inl rfl)) (pgs_cons (pg_name (i := 5) sc.nd rfl (Or.inl rfl)) pgs_nil))) (pss_cons (ps_if (PW.pt (pw_or (pt_not (pt_val (pe_c C_is_row hr (by omega) rfl (pa_cons (pv 4) pa_nil)))) (pw_or (pt_cmpR op_ne (pe_c C_mover hr (by omega) rfl (pa_cons (pv 4) pa_nil)) (pv 1) (nomark _)) (pw_or1 (pt_not (pt_val (pe_c C_is_word hr (by omega) rfl (pa_cons (pv 5) pa_nil)))))))) (pss_one (ps_ret pe_bl)) pss_nil)
  (pss_one (ps_if (pt_cmp (pc_dnotin (hu_of hr) (pe_op op_catA (pv 4) (pe_tup (pa_cons (pv 5) pa_nil))) (pv 3))) (pss_one (ps_ret pe_bl)) pss_nil)))))
  (pss_one (ps_ret pe_bl))))), ?_⟩
    have few := G.few
    refine ⟨_, rfl, _, _, _, _, true, rfl, .ty _, .base (.dT hD), kit_ty (by decide +kernel), true, rfl, iteF ?_⟩
    obtain ⟨xs, ha, pa⟩ := id gm
    refine ⟨_, rfl, a, rfl, ⟨_, SqT.of ha⟩, fun R hR => ?_⟩
    refine dcT_true (K := K) gm (by omega) hR (fun i r ws H3 Nx hw g3 hr ⟨ents, e1, e2, e3⟩ => ⟨rfl, _, rfl, ents, keyRow ws, r, rfl, e1, by rw [kV_row]; exact hr, e2, e3⟩) ?_
    intro H1 rents rks g1 hR1 rk mem
    have hD1 := g1 _ _ hD
    have nRD : R ≠ D := fun e => by rw [e, hD] at hR; cases hR
    refine ⟨D, _, hD1, True.intro, fun od => ?_⟩
    have tl := tups_lock (o := od) hD1
    have hR2 : upd H1 D (.frz od (.dT ents)) R = some (.dT rents) := by
      rw [upd_ne nRD]
      exact hR1
    refine ⟨_, rfl, D, od, ents, rfl, upd_same, ?_⟩
    refine for_it walk_itiT (fun i σ H2 => ∃ v4 v5, σ = [some (.ref a), some (.int x), some (.ref D), some (.ref R), v4, v5] ∧ Same (upd H1 D (.frz od (.dT ents))) H2) ⟨none, none, rfl, Same.refl _⟩ (fun i σ H2 _ ⟨_, _, _, g⟩ => g _ _ upd_same) ?_ ?_
    · rintro i y σ H2 H3 hi ⟨v4, v5, rfl, g2⟩ ⟨tp, k, v, r, hk, rfl, hn, hr, rfl⟩
      have hk1 : (ents.map (·.1))[i]? = some k := by rw [List.getElem?_map, hk]; rfl
      rw [rd.keys, List.getElem?_map] at hk1
      cases hkk : ks[i]? with
      | none => rw [hkk] at hk1; cases hk1
      | some kk =>
        rw [hkk] at hk1
        have ek : keyRow kk = k := Option.some.inj hk1
        subst ek
        have mk := List.mem_of_getElem? hkk
        have ev : v = .str (wf kk) := rd.vals _ (List.mem_of_getElem? hk) kk rfl
        subst ev
        rw [kV_row] at hr
        obtain ⟨mr, hs⟩ := P.key kk mk
        have mn := P.next kk mk
        have okk := G.ok kk mr
        have okn := G.ok _ mn
        have okw : wordOk (wf kk) := okn.2 _ (List.mem_append_right _ (List.mem_singleton.mpr rfl))
        have gt := same_new (o := .tup [.ref r, .str (wf kk)]) hn
        have hr3 := gt _ _ hr
        refine ⟨tp, _, rfl, SqT.of upd_same, rfl, _, _, rfl, _, _, rfl, rfl, ?_⟩
        refine ⟨_, rfl, r, kk, rfl, hr3, okk, fun H4 g4 => ⟨true, rfl, iteF ?_⟩⟩
        refine ⟨_, rfl, r, kk, rfl, g4 _ _ hr3, okk, fun H5 g5 => ⟨_, rfl, rfl, _, rfl, ?_⟩⟩
        rw [decI, decide_eq_true hs]
        refine iteF ⟨_, rfl, wf kk, rfl, okw.2, fun H6 g6 => ⟨_, rfl, ?_⟩⟩
        rw [okw.1]
        refine iteF ?_
        have g46 := g4.trans (g5.trans g6)
        refine ⟨_, rfl, _, rfl, (by show 1 ≤ PySem.sizeLine; decide), fun c hc => ?_⟩
        have gc := same_new (o := .tup [V.str (wf kk)]) hc
        refine cat_tups (gc _ _ (g46 _ _ hr3)) upd_same (by rw [List.length_map]; have := okk.1; show kk.length + 1 ≤ 4000; omega) fun b H7 g7 hb => ?_
        have gall := g2.trans (gt.trans (g46.trans (gc.trans g7)))
        refine ⟨_, rfl, R, valV rents (keyRow (kk ++ [wf kk])), rfl, DGet.t (gall _ _ hR2) (by rw [kV_row, List.map_append]; exact hb), ?_⟩
        rw [keys_isSome rk, decide_eq_true ((mem _).mpr mn)]
        exact ⟨false, rfl, iteF ⟨_, _, rfl, gall⟩⟩
    · rintro σ H2 ⟨v4, v5, rfl, g2⟩
      exact ⟨g2 _ _ upd_same, q _ (g1.trans (same_lock (od := D) hD1 g2))⟩
end
end K07
namespace K07
open PySem L2 Nm
open C8 (Cal Mak pe_c pe_mk pe_gc)
open RZ (ItzT pi_zipA)
theorem best_app {rs : List (List Str)} {r : List Str} (h : bestOf rs r ∈ nexts rs r) : r ++ [lastW (bestOf rs r)] = bestOf rs r := by
  obtain ⟨_, w, e⟩ := mem_nexts.mp h
  rw [e, lastW_snoc]
/-- what a plan holds: its rows are those that come -/
theorem plan_ok {rs : List (List Str)} {x : Int} {Dn ks : List (List Str)} (G : IsG rs) (P : PlS rs x [] Dn ks) : PlanOk rs x ks (fun r => lastW (bestOf rs r)) := by
  refine ⟨fun k hk => ⟨(P.sub k (List.mem_append_right _ (P.keys k hk).1)).1, (P.keys k hk).2⟩, fun k hk => ?_⟩
  obtain ⟨h1, h2⟩ := P.keys k hk
  have s := P.sub k (List.mem_append_right _ h1)
  have b := (best_ok (G.ok k s.1).1 s.2 h2).1
  show k ++ [lastW (bestOf rs k)] ∈ rs
  rw [best_app b]
  exact (mem_nexts.mp b).1
/-- the rows that come stay among those that the plan goes through -/
theorem come_in {rs : List (List Str)} {x : Int} {Dn ks : List (List Str)} (P : PlS rs x [] Dn ks) : (∀ r ∈ Dn, (r.length : Int) % 2 = x → r ∈ ks ∧ bestOf rs r ∈ Dn) ∧ ∀ r ∈ Dn, (r.length : Int) % 2 ≠ x → ∀ l ∈ nexts rs r, l ∈ Dn :=
  ⟨fun r hr hm => ⟨(P.own r hr hm).1, (List.nil_append Dn ▸ (P.own r hr hm).2 : bestOf rs r ∈ Dn)⟩, fun r hr hm l hl => (List.nil_append Dn ▸ P.oth r hr hm l hl : l ∈ Dn)⟩
theorem pls_start {rs : List (List Str)} {x : Int} (G : IsG rs) (hw : winS rs [] = x) : PlS rs x [[]] [] [] := by
  refine ⟨List.pairwise_singleton _ _, fun r hr => ?_, List.mem_singleton.mpr rfl, fun r hr => absurd hr (List.not_mem_nil), fun r hr => absurd hr (List.not_mem_nil), fun r hr ne => absurd (List.mem_singleton.mp hr) ne, fun r hr => absurd hr (List.not_mem_nil)⟩
  have e : r = [] := List.mem_singleton.mp hr
  rw [e]
  exact ⟨G.nil, hw⟩
section
variable {P : Program} {w : World} {K : PySem.W.Frag} {mg : Str → Option Value} {base : Heap}
def sp_plan_fault (K : PySem.W.Frag) : Sp := fun vs H Q _ => ∃ (a : Addr) (x : Int) (D : Addr), vs = [.ref a, .int x, .ref D] ∧ ∃ rs Dn ks, GmAt H a rs ∧ IsG rs ∧ (x = 0 ∨ x = 1) ∧ PlAt H D rs ks ∧ PlS rs x [] Dn ks ∧ ∀ H', Same H H' → Q .non H'
theorem c_plan_fault (T : Txt K mg) : Cal P w K mg base 8 "plan_fault" (sp_plan_fault K) [] := by
  have C_check_side := c_check_side (P := P) (w := w) (base := base) T
  have C_is_plan := c_is_plan (P := P) (w := w) (base := base) T
  have C_mover := c_mover (P := P) (w := w) (base := base) T
  have C_next_rows := c_next_rows (P := P) (w := w) (base := base) T
  have sc := sc_plan_fault
  refine cal_of T.d_plan_fault sc (fun _ _ _ _ _ _ us hl => match us, hl with | [_, _, _], _ => rfl) (fun vs H Q E h => ?_) (fun f cdv A outer s H vs Q E hr h => ?_)
  · obtain ⟨a, x, D, rfl, _⟩ := h
    rfl
  · obtain ⟨a, x, D, rfl, h⟩ := h
    obtain ⟨rs, Dn, ks, gm, G, h01, ⟨ents, hD, rd⟩, P0, q⟩ := h
    have few := G.few
    have big : (100000 : Nat) < PySem.sizeLine := by decide
    obtain ⟨inOwn, inOth⟩ := come_in P0
    have nilD : [] ∈ Dn := (List.nil_append Dn ▸ P0.nil : [] ∈ Dn)
    have subD : ∀ r ∈ Dn, r ∈ rs ∧ winS rs r = x := fun r hr => P0.sub r (List.mem_append_right _ hr)
    refine ⟨_, (pss_cons (ps_expr (pe_c C_check_side hr (by omega) rfl (pa_cons (pv 0) (pa_cons (pv 1) pa_nil))))
  (pss_cons (ps_if (pt_not (pt_val (pe_c C_is_plan hr (by omega) rfl (pa_cons (pv 0) (pa_cons (pv 1) (pa_cons (pv 2) pa_nil)))))) (pss_one (ps_ret (pe_tup (pa_cons pe_str pa_nil)))) pss_nil)
  (pss_cons (ps_set (i := 3) sc.nd rfl (Or.inl rfl) (pe_c C_next_rows hr (by omega) rfl (pa_cons (pv 0) pa_nil)))
  (pss_cons (ps_set (i := 4) sc.nd rfl (Or.inl rfl) (pe_lst pa_nil))
  (pss_cons (ps_set (i := 5) sc.nd rfl (Or.inl rfl) (pe_lst (pa_cons (pe_tup pa_nil) pa_nil)))
  (pss_cons (ps_while PassesOwn.never (pt_truth (pv 5) (fun _ => rfl)) (pss_cons (ps_set (i := 6) sc.nd rfl (Or.inl rfl) (pe_bm0 PySem.F.plainAttrs_list PySem.F.slot_list_pop PySem.F.type_list_pop mt_pop (pv 5)))
  (pss_one (ps_if (pt_cmpR op_ne (pe_c C_mover hr (by omega) rfl (pa_cons (pv 6) pa_nil)) (pv 1) (nomark _)) (pss_one (ps_expr (pe_bm PySem.F.plainAttrs_list PySem.F.slot_list_extend PySem.F.type_list_extend mt_extend (pv 5) (pa_cons (pe_dget (hu_of hr) (pv 3) (pv 6) (fun _ _ => rfl)) pa_nil)))) (pss_one (ps_if (pt_cmp (pc_din (hu_of hr) (pv 6) (pv 2))) (pss_one (ps_expr (pe_bm PySem.F.plainAttrs_list PySem.F.slot_list_append PySem.F.type_list_append mt_append (pv 5) (pa_cons (pe_op op_catA (pv 6) (pe_tup (pa_cons (pe_dget (hu_of hr) (pv 2) (pv 6) (fun _ _ => rfl)) pa_nil))) pa_nil)))) (pss_one (ps_expr (pe_bm PySem.F.plainAttrs_list PySem.F.slot_list_append PySem.F.type_list_append mt_append (pv 4) (pa_cons (pv 6) pa_nil))))))))))
  (pss_one (ps_ret (pe_ifExp (pt_truth (pv 4) (fun _ => rfl)) (pe_tup (pa_cons pe_str (pa_cons (pe_callB (cr_min rfl) rfl T.m_min (by decide +kernel) (pa_cons (pv 4) pa_nil)) pa_nil))) pe_non))))))))), ?_⟩
    refine ⟨_, rfl, _, rfl, a, x, rfl, rs, gm, G, h01, fun H1 g1 => ?_⟩
    refine ⟨_, rfl, _, rfl, _, rfl, a, x, D, rfl, rs, ents, ks, _, gm.keep (tups_same g1), G, g1 _ _ hD, rd, plan_ok G P0, fun H2 g2 => ⟨true, rfl, iteF ?_⟩⟩
    have g12 := g1.trans g2
    refine ⟨_, rfl, a, rfl, rs, gm.keep (tups_same g12), G, fun H3 A nx3 g3 => ?_⟩
    have g13 := g12.trans g3
    obtain ⟨entA, hA, nxs⟩ := id nx3
    have hD3 := g13 _ _ hD
    refine ⟨Nat.zero_le _, fun lk hlk => ⟨nought, fun e1 he1 => ⟨(by show 1 ≤ PySem.sizeLine; decide), fun w hw => ?_⟩⟩⟩
    have k1 := same_new (o := .lst []) hlk
    have k2 := same_new (o := .tup []) he1
    have k3 := same_new (o := .lst [V.ref e1]) hw
    have hw3 : H3 w = none := (k1.trans k2).free hw
    have nlw : lk ≠ w := fun e => by
      rw [← e, k2 _ _ upd_same] at hw
      cases hw
    have hlk0 := (k2.trans k3) _ _ (upd_same (H := H3) (a := lk) (o := .lst []))
    have he0' := k3 _ _ (upd_same (H := upd H3 lk (.lst [])) (a := e1) (o := .tup []))
    have hw0' := upd_same (H := upd (upd H3 lk (.lst [])) e1 (.tup [])) (a := w) (o := .lst [V.ref e1])
    have k13 := k1.trans (k2.trans k3)
    generalize upd (upd (upd H3 lk (.lst [])) e1 (.tup [])) w (.lst [V.ref e1]) = H4 at hlk0 he0' hw0' k13
    refine ⟨fun m σ H5 => ∃ v6 Wt Dm, ∃ (zs : List V) (km : List (List Str)), σ = [some (.ref a), some (.int x), some (.ref D), some (.ref A), some (.ref lk), some (.ref w), v6] ∧ Same H3 H5 ∧ H5 w = some (.lst zs) ∧ H5 lk = some (.lst []) ∧ Paired (RwAt H5) zs Wt ∧ (∀ r ∈ Wt, r ∈ Dn) ∧ PlS rs x Wt Dm km ∧ m + Dm.length = 601,
      ⟨601, none, [[]], [], [V.ref e1], [], rfl, k13, hw0', hlk0, .cons ⟨e1, rfl, he0'⟩ .nil, fun r hr => by rw [List.mem_singleton.mp hr]; exact nilD, pls_start G (subD [] nilD).2, rfl⟩, ?_⟩
    rintro m σ H5 ⟨v6, Wt, Dm, zs, km, rfl, g5, hw5, hlk5, pz, sub5, P, em⟩
    have lz := paired_len pz
    have lP := P.len
    refine ⟨_, rfl, _, .inl ⟨_, SqL.of hw5, rfl⟩, ?_⟩
    cases hzs : zs.isEmpty with
    | true =>
      refine iteF ⟨_, rfl, false, .inl ⟨_, SqL.of hlk5, rfl⟩, ?_⟩
      exact iteF (q H5 (g13.trans g5))
    | false =>
      have zne : zs ≠ [] := fun e => by
        rw [e] at hzs
        cases hzs
      obtain ⟨zs0, y, W0, row, rfl, rfl, p0, r, rfl, hr5⟩ := paired_last pz zne
      refine iteT ⟨_, fun σ' H' h => h, ?_⟩
      have inD := sub5 row (List.mem_append_right _ List.mem_cons_self)
      have sub0 : ∀ r ∈ W0, r ∈ Dn := fun r hr => sub5 r (List.mem_append_left _ hr)
      have hrow := subD row inD
      have rok := G.ok row hrow.1
      refine ⟨_, rfl, .inl ⟨rfl, _, SqL.of hw5⟩, w, zs0 ++ [.ref r], .ref r, rfl, rfl, hw5, ?_, ?_⟩
      · rw [List.length_append, List.length_singleton, Nat.add_sub_cancel, List.getElem?_append_right (Nat.le_refl _), Nat.sub_self]
        rfl
      rw [List.dropLast_concat]
      have g6 : Same H3 (upd H5 w (.lst zs0)) := same_mut g5 hw3
      have tl := tups_lst (vs := zs0) hw5
      have hw6 : upd H5 w (.lst zs0) w = some (.lst zs0) := upd_same
      have hlk6 : upd H5 w (.lst zs0) lk = some (.lst []) := by
        rw [upd_ne nlw]
        exact hlk5
      have hr6 := tl _ _ hr5
      have p6 := paired_mono (fun _ _ => stays_rw _ _ _ _ tl) p0
      generalize upd H5 w (.lst zs0) = H6 at g6 hw6 hlk6 hr6 p6
      clear tl hw5 hlk5 hr5 pz p0 g5
      refine ⟨_, rfl, r, row, rfl, hr6, rok, fun H7 g7 => ⟨_, rfl, rfl, _, rfl, ?_⟩⟩
      rw [decI]
      have g37 := g6.trans g7
      have hr7 := g7 _ _ hr6
      have hw7 := g7 _ _ hw6
      have hlk7 := g7 _ _ hlk6
      have kr : ∀ {H5 : Hp} {r5 : Addr} {ws : List Str}, H5 r5 = some (.tup (ws.map V.str)) → H5 r5 = some (.tup ((keyRow ws).map kV)) := fun h => by rw [kV_row]; exact h
      have eWt : (W0 ++ [row]).length = W0.length + 1 := by rw [List.length_append, List.length_singleton]
      have l0 : zs0.length = W0.length := paired_len p6
      by_cases hm : (row.length : Int) % 2 = x
      · rw [decide_eq_true hm]
        obtain ⟨b1, b2, b3, b4⟩ := best_ok rok.1 hrow.2 hm
        obtain ⟨mk, bD⟩ := inOwn row inD hm
        obtain ⟨yv, hyv, eyv⟩ := rd.get mk
        have eyv : yv = .str (lastW (bestOf rs row)) := eyv
        subst eyv
        have hD7 := g37 _ _ hD3
        refine iteF ⟨_, rfl, _, rfl, D, _, rfl, DGet.t hD7 (kr hr7), ?_⟩
        rw [hyv]
        refine ⟨true, rfl, iteT ?_⟩
        refine ⟨_, rfl, .inl ⟨rfl, _, SqL.of hw7⟩, ?_⟩
        refine ⟨_, rfl, _, rfl, _, rfl, D, _, rfl, hyv ▸ DGet.t hD7 (kr hr7), (by show 1 ≤ PySem.sizeLine; decide), fun c hc => ?_⟩
        have gc := same_new (o := .tup [V.str (lastW (bestOf rs row))]) hc
        refine cat_tups (gc _ _ hr7) upd_same (by rw [List.length_map]; have := rok.1; show row.length + 1 ≤ 4000; omega) fun b H8 g8 hb => ?_
        have g78 := gc.trans g8
        have hb' : H8 b = some (.tup ((bestOf rs row).map V.str)) := by
          rw [hb, lastW_best b1]
        have hw8 := g78 _ _ hw7
        refine ⟨w, zs0, .ref b, rfl, rfl, hw8, by omega, ?_⟩
        have tw := tups_lst (vs := zs0 ++ [V.ref b]) hw8
        refine ⟨m - 1, by omega, _, W0 ++ [bestOf rs row], row :: Dm, zs0 ++ [V.ref b], plusR km row, rfl, same_mut (g37.trans g78) hw3, upd_same, by rw [upd_ne nlw]; exact g78 _ _ hlk7, paired_snoc (paired_mono (fun _ _ => stays_rw _ _ _ _ fun c us hc => tw _ _ (g78 _ _ (g7 _ _ hc))) p6) ⟨b, rfl, tw _ _ hb'⟩, fun z hz => ?_, ?_, ?_⟩
        · rcases List.mem_append.mp hz with h | h
          · exact sub0 z h
          · rw [List.mem_singleton.mp h]
            exact bD
        · refine P.step (List.pairwise_singleton _ _) (fun l hl => by rw [List.mem_singleton.mp hl]; exact ⟨b1, b3⟩) (fun _ => ⟨mem_plusR.mpr (.inr rfl), List.mem_cons_self, fun l hl => List.mem_singleton.mp hl⟩) (fun z => absurd hm z) (fun z hz => ?_) (fun z hz => mem_plusR.mpr (.inl hz))
          rcases mem_plusR.mp hz with h | h
          · exact .inl h
          · exact .inr ⟨h, hm⟩
        · rw [List.length_cons]
          omega
      · rw [decide_eq_false hm]
        obtain ⟨qa, us, eA, hqa, pu⟩ := nxs row hrow.1
        have lu := paired_len pu
        have ln : (nexts rs row).length ≤ 600 := Nat.le_trans (List.length_filter_le _ _) few
        refine iteT ?_
        have hq7 := g37 _ _ hqa
        refine ⟨_, rfl, .inl ⟨rfl, _, SqL.of hw7⟩, _, rfl, _, rfl, A, .ref qa, rfl, eA ▸ DGet.t (g37 _ _ hA) (kr hr7), w, qa, zs0, us, rfl, rfl, hw7, hq7, by omega, ?_⟩
        have tw := tups_lst (vs := zs0 ++ us) hw7
        refine ⟨m - 1, by omega, _, W0 ++ nexts rs row, row :: Dm, zs0 ++ us, km, rfl, same_mut g37 hw3, upd_same, by rw [upd_ne nlw]; exact hlk7, paired_app (paired_mono (fun _ _ => stays_rw _ _ _ _ fun c us hc => tw _ _ (g7 _ _ hc)) p6) (paired_mono (fun _ _ => stays_rw _ _ _ _ fun c us hc => tw _ _ (g37 _ _ hc)) pu), fun z hz => ?_, ?_, ?_⟩
        · rcases List.mem_append.mp hz with h | h
          · exact sub0 z h
          · exact inOth row inD hm z h
        · have ow := oth_ok rok.1 h01 hrow.2 hm
          exact P.step (nexts_nd G.up row) (fun l hl => ⟨hl, ow l hl⟩) (fun z => absurd z hm) (fun _ l hl => hl) (fun z hz => .inl hz) (fun z hz => hz)
        · rw [List.length_cons]
          omega
end
end K07
namespace K07
open PySem L2 Nm
open C8 (Cal Mak pe_c pe_mk pe_gc)
open RZ (ItzT pi_zipA)
theorem come_one {rs : List (List Str)} {x : Int} {Dn ks Dm km : List (List Str)} (P0 : PlS rs x [] Dn ks) (P : PlS rs x [] Dm km) : ∀ (n : Nat) (r : List Str), r.length = n → r ∈ Dn → r ∈ Dm
  | 0, r, hn, _ => by
    rw [List.eq_nil_of_length_eq_zero hn]
    exact (List.nil_append Dm ▸ P.nil : [] ∈ Dm)
  | n + 1, r, hn, hr => by
    have ne : r ≠ [] := fun e => by rw [e] at hn; cases hn
    obtain ⟨h1, h2⟩ := P0.par r (List.mem_append_right _ hr) ne
    have ih := come_one P0 P n r.dropLast (by rw [List.length_dropLast]; omega) h1
    obtain ⟨o1, o2⟩ := come_in P
    by_cases c : (r.dropLast.length : Int) % 2 = x
    · rw [h2 c]
      exact (o1 _ ih c).2
    · refine o2 _ ih c r (mem_nexts.mpr ⟨(P0.sub r (List.mem_append_right _ hr)).1, r.getLast ne, (List.dropLast_concat_getLast ne).symm⟩)
theorem keys_one {rs : List (List Str)} {x : Int} {Dn ks Dm km : List (List Str)} (P0 : PlS rs x [] Dn ks) (P : PlS rs x [] Dm km) (z : List Str) : z ∈ km ↔ z ∈ ks :=
  ⟨fun h => ((come_in P0).1 z (come_one P P0 _ z rfl (P.keys z h).1) (P.keys z h).2).1, fun h => ((come_in P).1 z (come_one P0 P _ z rfl (P0.keys z h).1) (P0.keys z h).2).1⟩
/-- the game ends -/
theorem come_end {rs : List (List Str)} {x : Int} {Dm km : List (List Str)} (G : IsG rs) (P : PlS rs x [] Dm km) : ∀ (n : Nat) (r : List Str), 61 - r.length = n → r ∈ Dm → ∃ e ∈ Dm, (e.length : Int) % 2 ≠ x ∧ wordsAt rs e = []
  | 0, r, hn, hr => by
    have := (G.ok r (P.sub r (List.mem_append_right _ hr)).1).1
    omega
  | n + 1, r, hn, hr => by
    obtain ⟨o1, o2⟩ := come_in P
    have s := P.sub r (List.mem_append_right _ hr)
    have l60 := (G.ok r s.1).1
    by_cases c : (r.length : Int) % 2 = x
    · have b := (best_ok l60 s.2 c).1
      have l := nexts_len b
      exact come_end G P n (bestOf rs r) (by omega) (o1 r hr c).2
    · cases e : wordsAt rs r with
      | nil => exact ⟨r, hr, c, e⟩
      | cons w ws =>
        have m : r ++ [w] ∈ nexts rs r := by
          rw [nexts_words, e]
          exact List.mem_cons_self
        exact come_end G P n (r ++ [w]) (by rw [List.length_append, List.length_singleton]; omega) (o2 r hr c _ m)
section
variable {P : Program} {w : World} {K : PySem.W.Frag} {mg : Str → Option Value} {base : Heap}
def sp__law_rows_by (K : PySem.W.Frag) : Sp := fun vs H Q _ => ∃ (a : Addr) (x : Int) (D : Addr), vs = [.ref a, .int x, .ref D] ∧ ∃ rs Dn ks, GmAt H a rs ∧ IsG rs ∧ (x = 0 ∨ x = 1) ∧ PlAt H D rs ks ∧ PlS rs x [] Dn ks ∧
  ∀ H' T k1 l1 e1 (km : List (List Str)) (es : List V), Same H H' → H' T = some (.tup [.ref k1, .ref l1, .ref e1]) → LstOf RwAt H' k1 km → km.Nodup → (∀ z, z ∈ km ↔ z ∈ ks) → H' l1 = some (.lst []) → H' e1 = some (.lst es) → es ≠ [] → es.length ≤ 1000 → Q (.ref T) H'
theorem c__law_rows_by (T : Txt K mg) : Cal P w K mg base 3 "_law_rows_by" (sp__law_rows_by K) [] := by
  have C__law_words := c__law_words (P := P) (w := w) (base := base) T
  have sc := sc__law_rows_by
  refine cal_of T.d__law_rows_by sc (fun _ _ _ _ _ _ us hl => match us, hl with | [_, _, _], _ => rfl) (fun vs H Q E h => ?_) (fun f cdv A outer s H vs Q E hr h => ?_)
  · obtain ⟨a, x, D, rfl, _⟩ := h
    rfl
  · obtain ⟨a, x, D, rfl, h⟩ := h
    obtain ⟨rs, Dn, ks, gm, G, h01, ⟨ents, hD, rd⟩, P0, q⟩ := h
    have few := G.few
    have big : (100000 : Nat) < PySem.sizeLine := by decide
    obtain ⟨inOwn, inOth⟩ := come_in P0
    have nilD : [] ∈ Dn := (List.nil_append Dn ▸ P0.nil : [] ∈ Dn)
    have subD : ∀ r ∈ Dn, r ∈ rs ∧ winS rs r = x := fun r hr => P0.sub r (List.mem_append_right _ hr)
    obtain ⟨xs, ha, pa⟩ := id gm
    refine ⟨_, (pss_cons (ps_set (i := 3) sc.nd rfl (Or.inl rfl) (pe_lst pa_nil))
  (pss_cons (ps_set (i := 4) sc.nd rfl (Or.inl rfl) (pe_lst pa_nil))
  (pss_cons (ps_set (i := 5) sc.nd rfl (Or.inl rfl) (pe_lst pa_nil))
  (pss_cons (ps_set (i := 6) sc.nd rfl (Or.inl rfl) (pe_lst (pa_cons (pe_tup pa_nil) pa_nil)))
  (pss_cons (ps_while PassesOwn.never (pt_cmpR op_gt (pe_callB (r := Nm.rLenS K) (id := "len") Nm.call_lenS rfl T.m_len (by decide +kernel) (pa_cons (pv 6) pa_nil)) pe_int (nomark _)) (pss_cons (ps_set (i := 7) sc.nd rfl (Or.inr rfl) (pe_bm0 PySem.F.plainAttrs_list PySem.F.slot_list_pop PySem.F.type_list_pop mt_pop (pv 6)))
  (pss_one (ps_if (pt_cmpR op_eq (pe_op op_mod (pe_callB (r := Nm.rLenS K) (id := "len") Nm.call_lenS rfl T.m_len (by decide +kernel) (pa_cons (pv 7) pa_nil)) pe_int) (pv 1) (nomark _)) (pss_one (ps_if (pt_cmp (pc_din (hu_of hr) (pv 7) (pv 2))) (pss_cons (ps_expr (pe_bm PySem.F.plainAttrs_list PySem.F.slot_list_append PySem.F.type_list_append mt_append (pv 3) (pa_cons (pv 7) pa_nil)))
  (pss_one (ps_expr (pe_bm PySem.F.plainAttrs_list PySem.F.slot_list_append PySem.F.type_list_append mt_append (pv 6) (pa_cons (pe_op op_catA (pv 7) (pe_tup (pa_cons (pe_dget (hu_of hr) (pv 2) (pv 7) (fun _ _ => rfl)) pa_nil))) pa_nil))))) (pss_one (ps_expr (pe_bm PySem.F.plainAttrs_list PySem.F.slot_list_append PySem.F.type_list_append mt_append (pv 4) (pa_cons (pv 7) pa_nil)))))) (pss_cons (ps_set (i := 8) sc.nd rfl (Or.inl rfl) (pe_c C__law_words hr (by omega) rfl (pa_cons (pv 0) (pa_cons (pv 7) pa_nil))))
  (pss_cons (ps_expr (pe_bm PySem.F.plainAttrs_list PySem.F.slot_list_extend PySem.F.type_list_extend mt_extend (pv 6) (pa_cons (pe_lc (own := [("word", 9)]) (g := gName 9) rfl sc.nd (pi_list (pv 8)) (blkOk_by (own := [("word", 9)]) (N := ["game", "side", "told", "keys", "lacking", "ends", "waiting", "row", "words", "word"]) (sc := defScope s__law_rows_by) (by decide +kernel)) (fun _ _ _ _ _ => (pg_name (i := 9) sc.nd rfl (Or.inl rfl))) (fun _ _ _ _ _ => pts_nil) (fun _ _ _ _ _ => (pe_op (r := rCatA K) op_catA (pv 7) (pe_tup (pa_cons (pv 9) pa_nil))))) pa_nil)))
  (pss_one (ps_if (pt_cmpR op_eq (pe_callB (r := Nm.rLenS K) (id := "len") Nm.call_lenS rfl T.m_len (by decide +kernel) (pa_cons (pv 8) pa_nil)) pe_int (nomark _)) (pss_one (ps_expr (pe_bm PySem.F.plainAttrs_list PySem.F.slot_list_append PySem.F.type_list_append mt_append (pv 5) (pa_cons (pv 7) pa_nil)))) pss_nil))))))))
  (pss_one (ps_ret (pe_tup (pa_cons (pv 3) (pa_cons (pv 4) (pa_cons (pv 5) pa_nil))))))))))), ?_⟩
    refine ⟨Nat.zero_le _, fun kA hkA => ⟨Nat.zero_le _, fun lA hlA => ⟨Nat.zero_le _, fun eA heA => ⟨nought, fun e1 he1 => ⟨(by show 1 ≤ PySem.sizeLine; decide), fun w hw => ?_⟩⟩⟩⟩⟩
    have k1 := same_new (o := .lst []) hkA
    have k2 := same_new (o := .lst []) hlA
    have k3 := same_new (o := .lst []) heA
    have k4 := same_new (o := .tup []) he1
    have k5 := same_new (o := .lst [V.ref e1]) hw
    have fr : ∀ {H' H'' : Hp} {p : Addr}, Same H' H'' → H'' p = none → H' p = none := fun g h => g.free h
    have hl0 := fr k1 hlA
    have he0 := fr (k1.trans k2) heA
    have hw0 := fr (k1.trans (k2.trans (k3.trans k4))) hw
    have nkl : kA ≠ lA := fun e => by rw [← e, upd_same] at hlA; cases hlA
    have nke : kA ≠ eA := fun e => by rw [← e, k2 _ _ upd_same] at heA; cases heA
    have nkw : kA ≠ w := fun e => by rw [← e, k4 _ _ (k3 _ _ (k2 _ _ upd_same))] at hw; cases hw
    have nle : lA ≠ eA := fun e => by rw [← e, upd_same] at heA; cases heA
    have nlw : lA ≠ w := fun e => by rw [← e, k4 _ _ (k3 _ _ upd_same)] at hw; cases hw
    have newt : eA ≠ w := fun e => by rw [← e, k4 _ _ upd_same] at hw; cases hw
    have i1 := k5 _ _ (k4 _ _ (k3 _ _ (k2 _ _ (upd_same (H := H) (a := kA) (o := .lst [])))))
    have i2 := k5 _ _ (k4 _ _ (k3 _ _ (upd_same (H := upd H kA (.lst [])) (a := lA) (o := .lst []))))
    have i3 := k5 _ _ (k4 _ _ (upd_same (H := upd (upd H kA (.lst [])) lA (.lst [])) (a := eA) (o := .lst [])))
    have i4 := k5 _ _ (upd_same (H := upd (upd (upd H kA (.lst [])) lA (.lst [])) eA (.lst [])) (a := e1) (o := .tup []))
    have i5 := upd_same (H := upd (upd (upd (upd H kA (.lst [])) lA (.lst [])) eA (.lst [])) e1 (.tup [])) (a := w) (o := .lst [V.ref e1])
    have k15 := k1.trans (k2.trans (k3.trans (k4.trans k5)))
    generalize upd (upd (upd (upd (upd H kA (.lst [])) lA (.lst [])) eA (.lst [])) e1 (.tup [])) w (.lst [V.ref e1]) = H4 at i1 i2 i3 i4 i5 k15
    refine ⟨fun m σ H5 => ∃ v7 v8 Wt Dm, ∃ (zs ky es : List V) (km : List (List Str)), σ = [some (.ref a), some (.int x), some (.ref D), some (.ref kA), some (.ref lA), some (.ref eA), some (.ref w), v7, v8, none] ∧ Same H H5 ∧ H5 w = some (.lst zs) ∧ H5 kA = some (.lst ky) ∧ H5 lA = some (.lst []) ∧ H5 eA = some (.lst es) ∧ Paired (RwAt H5) zs Wt ∧ Paired (RwAt H5) ky km ∧ km.Nodup ∧ es.length ≤ Dm.length ∧ (∀ r ∈ Dm, (r.length : Int) % 2 ≠ x → wordsAt rs r = [] → es ≠ []) ∧ (∀ r ∈ Wt, r ∈ Dn) ∧ PlS rs x Wt Dm km ∧ m + Dm.length = 601,
      ⟨601, none, none, [[]], [], [V.ref e1], [], [], [], rfl, k15, i5, i1, i2, i3, .cons ⟨e1, rfl, i4⟩ .nil, .nil, .nil, Nat.le_refl _, fun r hr => absurd hr (List.not_mem_nil), fun r hr => by rw [List.mem_singleton.mp hr]; exact nilD, pls_start G (subD [] nilD).2, rfl⟩, ?_⟩
    rintro m σ H5 ⟨v7, v8, Wt, Dm, zs, ky, es, km, rfl, g5, hw5, hk5, hl5, he5, pz, pk, ndk, les, ends5, sub5, P, em⟩
    have lz := paired_len pz
    have lP := P.len
    refine ⟨_, rfl, w, _, rfl, .inl (SqL.of hw5), _, _, rfl, rfl, _, rfl, ?_⟩
    refine ite2 (fun z => ?_) (fun z => ?_)
    rotate_left
    · have z0 : zs = [] := List.eq_nil_of_length_eq_zero (by
        have h : ¬ (0 : Int) < (zs.length : Int) := fun h => z (decide_eq_true h)
        omega)
      have w0 : Wt = [] := by
        rw [z0] at lz
        exact List.eq_nil_of_length_eq_zero lz.symm
      subst w0
      have memk := keys_one P0 P
      have nilm : [] ∈ Dm := (List.nil_append Dm ▸ P.nil : [] ∈ Dm)
      obtain ⟨e, me, te, we⟩ := come_end G P _ [] rfl nilm
      refine ⟨_, rfl, _, rfl, _, rfl, (by show 3 ≤ PySem.sizeLine; decide), fun T hT => ?_⟩
      have gT := same_new (o := .tup [.ref kA, .ref lA, .ref eA]) hT
      exact q _ T kA lA eA km es (g5.trans gT) upd_same ⟨ky, gT _ _ hk5, paired_mono (fun _ _ z => stays_rw _ _ _ _ (tups_same gT) z) pk⟩ ndk memk (gT _ _ hl5) (gT _ _ he5) (ends5 e me te we) (by
        have lP2 : ([] : List (List Str)).length + Dm.length ≤ rs.length := lP
        simp at lP2
        omega)
    · have zne : zs ≠ [] := fun e => by
        rw [e] at z
        cases z
      obtain ⟨zs0, y, W0, row, rfl, rfl, p0, r, rfl, hr5⟩ := paired_last pz zne
      refine ⟨_, fun σ' H' h => h, ?_⟩
      have inD := sub5 row (List.mem_append_right _ List.mem_cons_self)
      have sub0 : ∀ r ∈ W0, r ∈ Dn := fun r hr => sub5 r (List.mem_append_left _ hr)
      have hrow := subD row inD
      have rok := G.ok row hrow.1
      refine ⟨_, rfl, .inl ⟨rfl, _, SqL.of hw5⟩, w, zs0 ++ [.ref r], .ref r, rfl, rfl, hw5, ?_, ?_⟩
      · rw [List.length_append, List.length_singleton, Nat.add_sub_cancel, List.getElem?_append_right (Nat.le_refl _), Nat.sub_self]
        rfl
      rw [List.dropLast_concat]
      have g6 : Same H (upd H5 w (.lst zs0)) := same_mut g5 hw0
      have tl := tups_lst (vs := zs0) hw5
      have hw6 : upd H5 w (.lst zs0) w = some (.lst zs0) := upd_same
      have hk6 : upd H5 w (.lst zs0) kA = some (.lst ky) := by rw [upd_ne nkw]; exact hk5
      have hl6 : upd H5 w (.lst zs0) lA = some (.lst []) := by rw [upd_ne nlw]; exact hl5
      have he6 : upd H5 w (.lst zs0) eA = some (.lst es) := by rw [upd_ne newt]; exact he5
      have hr6 := tl _ _ hr5
      have p6 := paired_mono (fun _ _ => stays_rw _ _ _ _ tl) p0
      have q6 := paired_mono (fun _ _ => stays_rw _ _ _ _ tl) pk
      generalize upd H5 w (.lst zs0) = H6 at g6 hw6 hk6 hl6 he6 hr6 p6 q6
      clear tl hw5 hk5 hl5 he5 hr5 pz p0 pk g5 z
      refine ⟨_, rfl, r, _, rfl, .inr (SqT.of hr6), _, 2, rfl, rfl, (by show (0 : Int) < 2; decide), _, rfl, rfl, _, rfl, ?_⟩
      rw [List.length_map, decI]
      have kr : ∀ {H5 : Hp} {r5 : Addr} {ws : List Str}, H5 r5 = some (.tup (ws.map V.str)) → H5 r5 = some (.tup ((keyRow ws).map kV)) := fun h => by rw [kV_row]; exact h
      have eWt : (W0 ++ [row]).length = W0.length + 1 := by rw [List.length_append, List.length_singleton]
      have l0 : zs0.length = W0.length := paired_len p6
      have notk : row ∉ km := fun h => by
        have d := (P.keys row h).1
        exact (List.nodup_append.mp P.nd).2.2 row (List.mem_append_right _ List.mem_cons_self) row d rfl
      have lkm : km.length ≤ rs.length := List.Nodup.length_le_of_subset ndk fun z hz => (P.sub z (List.mem_append_right _ (P.keys z hz).1)).1
      have lky : ky.length = km.length := paired_len q6
      by_cases hm : (row.length : Int) % 2 = x
      · rw [decide_eq_true hm]
        obtain ⟨b1, b2, b3, b4⟩ := best_ok rok.1 hrow.2 hm
        obtain ⟨mk, bD⟩ := inOwn row inD hm
        obtain ⟨yv, hyv, eyv⟩ := rd.get mk
        have eyv : yv = .str (lastW (bestOf rs row)) := eyv
        subst eyv
        have hD6 := g6 _ _ hD
        refine iteT ⟨_, rfl, _, rfl, D, _, rfl, DGet.t hD6 (kr hr6), ?_⟩
        rw [hyv]
        refine ⟨true, rfl, iteT ?_⟩
        refine ⟨_, rfl, .inl ⟨rfl, _, SqL.of hk6⟩, _, rfl, kA, ky, .ref r, rfl, rfl, hk6, by omega, ?_⟩
        have tk := tups_lst (vs := ky ++ [V.ref r]) hk6
        have hkA : H kA = none := hkA
        have g7 : Same H (upd H6 kA (.lst (ky ++ [.ref r]))) := same_mut g6 hkA
        have hw7 : upd H6 kA (.lst (ky ++ [.ref r])) w = some (.lst zs0) := by rw [upd_ne nkw.symm]; exact hw6
        have hl7 : upd H6 kA (.lst (ky ++ [.ref r])) lA = some (.lst []) := by rw [upd_ne nkl.symm]; exact hl6
        have he7 : upd H6 kA (.lst (ky ++ [.ref r])) eA = some (.lst es) := by rw [upd_ne nke.symm]; exact he6
        have hk7 : upd H6 kA (.lst (ky ++ [.ref r])) kA = some (.lst (ky ++ [.ref r])) := upd_same
        have hr7 := tk _ _ hr6
        have p7 := paired_mono (fun _ _ => stays_rw _ _ _ _ tk) p6
        have q7 := paired_snoc (paired_mono (fun _ _ => stays_rw _ _ _ _ tk) q6) ⟨r, rfl, hr7⟩
        generalize upd H6 kA (.lst (ky ++ [.ref r])) = H7 at g7 hw7 hk7 hl7 he7 hr7 p7 q7
        refine ⟨_, rfl, .inl ⟨rfl, _, SqL.of hw7⟩, ?_⟩
        refine ⟨_, rfl, _, rfl, _, rfl, D, _, rfl, hyv ▸ DGet.t (g7 _ _ hD) (kr hr7), (by show 1 ≤ PySem.sizeLine; decide), fun c hc => ?_⟩
        have gc := same_new (o := .tup [V.str (lastW (bestOf rs row))]) hc
        refine cat_tups (gc _ _ hr7) upd_same (by rw [List.length_map]; have := rok.1; show row.length + 1 ≤ 4000; omega) fun b H8 g8 hb => ?_
        have g78 := gc.trans g8
        have hb' : H8 b = some (.tup ((bestOf rs row).map V.str)) := by
          rw [hb, lastW_best b1]
        have hw8 := g78 _ _ hw7
        refine ⟨w, zs0, .ref b, rfl, rfl, hw8, by omega, ?_⟩
        have tw := tups_lst (vs := zs0 ++ [V.ref b]) hw8
        refine ⟨m - 1, by omega, _, _, W0 ++ [bestOf rs row], row :: Dm, zs0 ++ [V.ref b], ky ++ [.ref r], es, km ++ [row], rfl, same_mut (g7.trans g78) hw0, upd_same, by rw [upd_ne nkw]; exact g78 _ _ hk7, by rw [upd_ne nlw]; exact g78 _ _ hl7, by rw [upd_ne newt]; exact g78 _ _ he7, paired_snoc (paired_mono (fun _ _ => stays_rw _ _ _ _ fun c us hc => tw _ _ (g78 _ _ hc)) p7) ⟨b, rfl, tw _ _ hb'⟩, paired_mono (fun _ _ => stays_rw _ _ _ _ fun c us hc => tw _ _ (g78 _ _ hc)) q7, ?_, by rw [List.length_cons]; omega, fun z hz ht hwz => ?_, fun z hz => ?_, ?_, ?_⟩
        · exact List.nodup_append.mpr ⟨ndk, List.pairwise_singleton _ _, fun a ha b hb e => notk (by rw [← List.mem_singleton.mp hb, ← e]; exact ha)⟩
        · rcases List.mem_cons.mp hz with h | h
          · rw [h] at ht
            exact absurd hm ht
          · exact ends5 z h ht hwz
        · rcases List.mem_append.mp hz with h | h
          · exact sub0 z h
          · rw [List.mem_singleton.mp h]
            exact bD
        · refine P.step (List.pairwise_singleton _ _) (fun l hl => by rw [List.mem_singleton.mp hl]; exact ⟨b1, b3⟩) (fun _ => ⟨List.mem_append_right _ List.mem_cons_self, List.mem_cons_self, fun l hl => List.mem_singleton.mp hl⟩) (fun z => absurd hm z) (fun z hz => ?_) (fun z hz => List.mem_append_left _ hz)
          rcases List.mem_append.mp hz with h | h
          · exact .inl h
          · exact .inr ⟨List.mem_singleton.mp h, hm⟩
        · rw [List.length_cons]
          omega
      · rw [decide_eq_false hm]
        refine iteF ?_
        refine ⟨_, rfl, _, rfl, a, r, rfl, rs, row, gm.keep (tups_same g6), G, hr6, rok.2, few, fun pw H7 g7 hpw => ?_⟩
        have lw : (wordsAt rs row).length ≤ 600 := by
          have e := congrArg List.length (nexts_words rs row)
          rw [List.length_map] at e
          have := List.length_filter_le (isNext row) rs
          unfold nexts at e
          omega
        have g67 := g6.trans g7
        have hr7 := g7 _ _ hr6
        have hw7 := g7 _ _ hw6
        refine ⟨_, rfl, .inl ⟨rfl, _, SqL.of hw7⟩, ?_⟩
        refine ⟨_, rfl, pw, rfl, ⟨_, SqL.of hpw⟩, fun D3 hD3 => ?_⟩
        refine lcS (walk_list (K := K) (a := pw) (xs := (wordsAt rs row).map V.str)) stays_rw (wordsAt rs row) (fun _ => true) (fun w => row ++ [w]) (List.length_map ..) (by omega) (fun H11 g11 => SqL.of (g11 _ _ hpw)) hD3 ?_ ?_
        · rintro j2 x2 wd H11 H12 Nx hwd ⟨rfl, hx2⟩ sm _ yes
          rw [List.getElem?_map, hwd] at hx2
          cases hx2
          refine ⟨rfl, ?_⟩
          refine ⟨_, rfl, _, rfl, (by show 1 ≤ PySem.sizeLine; decide), fun c hc => ?_⟩
          have gc := same_new (o := .tup [V.str wd]) hc
          refine cat_tups (gc _ _ (sm _ _ hr7)) upd_same (by rw [List.length_map]; have := rok.1; show row.length + 1 ≤ 4000; omega) fun b H13 g13 hb => ?_
          exact yes rfl _ _ (gc.trans g13) ⟨b, rfl, by rw [hb, List.map_append]; rfl⟩
        intro H8 g8 l8
        rw [filter_all, ← nexts_words] at l8
        obtain ⟨us, hB8, pu⟩ := l8
        have lu := paired_len pu
        have ln : (nexts rs row).length ≤ 600 := Nat.le_trans (List.length_filter_le _ _) few
        have g78 := g7.trans g8
        have hw8 := g8 _ _ hw7
        refine ⟨w, D3, zs0, us, rfl, rfl, hw8, hB8, by omega, ?_⟩
        have tw := tups_lst (vs := zs0 ++ us) hw8
        have hk9 : upd H8 w (.lst (zs0 ++ us)) kA = some (.lst ky) := by rw [upd_ne nkw]; exact g78 _ _ hk6
        have hl9 : upd H8 w (.lst (zs0 ++ us)) lA = some (.lst []) := by rw [upd_ne nlw]; exact g78 _ _ hl6
        have he9 : upd H8 w (.lst (zs0 ++ us)) eA = some (.lst es) := by rw [upd_ne newt]; exact g78 _ _ he6
        have hw9 : upd H8 w (.lst (zs0 ++ us)) w = some (.lst (zs0 ++ us)) := upd_same
        have g9 : Same H (upd H8 w (.lst (zs0 ++ us))) := same_mut (g6.trans g78) hw0
        have hpw9 : upd H8 w (.lst (zs0 ++ us)) pw = some (.lst ((wordsAt rs row).map V.str)) := by
          by_cases c : pw = w
          · subst c
            have e1 : zs0 = (wordsAt rs row).map V.str := by
              have e := hw7.symm.trans hpw
              injection e with e
              injection e
            have z0 : zs0 = [] := by
              cases p6 with
              | nil => rfl
              | cons h t =>
                obtain ⟨r', e2, _⟩ := h
                subst e2
                cases hw : wordsAt rs row with
                | nil => rw [hw] at e1; cases e1
                | cons w0 ws => rw [hw] at e1; cases e1
            have w0 : wordsAt rs row = [] := by
              rw [z0] at e1
              exact List.map_eq_nil_iff.mp e1.symm
            have u0 : us = [] := by
              rw [nexts_words, w0] at lu
              exact List.eq_nil_of_length_eq_zero lu
            rw [upd_same, z0, u0, w0]
            rfl
          · rw [upd_ne c]
            exact g8 _ _ hpw
        have hr9 := tw _ _ (g8 _ _ hr7)
        have p9 := paired_app (paired_mono (fun _ _ => stays_rw _ _ _ _ fun c us hc => tw _ _ (g78 _ _ hc)) p6) (paired_mono (fun _ _ => stays_rw _ _ _ _ fun c us hc => tw _ _ hc) pu)
        have q9 := paired_mono (fun _ _ => stays_rw _ _ _ _ fun c us hc => tw _ _ (g78 _ _ hc)) q6
        have inW : ∀ r ∈ W0 ++ nexts rs row, r ∈ Dn := fun z hz => by
          rcases List.mem_append.mp hz with h | h
          · exact sub0 z h
          · exact inOth row inD hm z h
        have ow := oth_ok rok.1 h01 hrow.2 hm
        have P9 := P.step (nexts_nd G.up row) (fun l hl => ⟨hl, ow l hl⟩) (fun z => absurd z hm) (fun _ l hl => hl) (fun z hz => .inl hz) (fun z hz => hz)
        generalize upd H8 w (.lst (zs0 ++ us)) = H9 at hk9 hl9 he9 hw9 g9 hpw9 hr9 p9 q9
        refine ⟨_, rfl, pw, _, rfl, .inl (SqL.of hpw9), rfl, _, rfl, ?_⟩
        rw [List.length_map, decI]
        refine ite2 (fun z => ?_) (fun z => ?_)
        · refine ⟨_, rfl, .inl ⟨rfl, _, SqL.of he9⟩, _, rfl, eA, es, .ref r, rfl, rfl, he9, by omega, ?_⟩
          have te := tups_lst (vs := es ++ [V.ref r]) he9
          refine ⟨m - 1, by omega, _, _, W0 ++ nexts rs row, row :: Dm, zs0 ++ us, ky, es ++ [.ref r], km, rfl, same_mut g9 he0, by rw [upd_ne newt.symm]; exact hw9, by rw [upd_ne nke]; exact hk9, by rw [upd_ne nle]; exact hl9, upd_same, paired_mono (fun _ _ => stays_rw _ _ _ _ te) p9, paired_mono (fun _ _ => stays_rw _ _ _ _ te) q9, ndk, Nat.le_trans (Nat.le_of_eq (show (es ++ [V.ref r]).length = es.length + 1 by simp)) (Nat.succ_le_succ les), fun _ _ _ _ => by simp, inW, P9, by rw [List.length_cons]; omega⟩
        · refine ⟨m - 1, by omega, _, _, W0 ++ nexts rs row, row :: Dm, zs0 ++ us, ky, es, km, rfl, g9, hw9, hk9, hl9, he9, p9, q9, ndk, by rw [List.length_cons]; omega, fun z2 hz ht hwz => ?_, inW, P9, by rw [List.length_cons]; omega⟩
          rcases List.mem_cons.mp hz with h | h
          · rw [h] at hwz
            exact absurd (decide_eq_true (by rw [hwz]; rfl)) z
          · exact ends5 z2 h ht hwz
end
end K07
namespace K07
open PySem L2 Nm
open C8 (Cal Mak pe_c pe_mk pe_gc)
open RZ (ItzT pi_zipA)
theorem win01 (rs : List (List Str)) (r : List Str) : winS rs r = 0 ∨ winS rs r = 1 := by
  unfold winS
  have : (r.length : Int) % 2 = 0 ∨ (r.length : Int) % 2 = 1 := by omega
  cases (val rs r).1
  · rw [if_neg Bool.false_ne_true]
    omega
  · rw [if_pos rfl]
    omega
theorem str_ne_tape {H : Hp} {tp l p : Addr} {ws : List Str} (t : TapeAt H tp l) (h : H p = some (.lst (ws.map V.str))) : p ≠ tp := fun e => by
  obtain ⟨ns, i, c, k, j, h1, _⟩ := t
  rw [e, h1] at h
  cases ws with
  | nil => cases h
  | cons w ws => cases h
/-- a number and a text -/
def IsAt (H : Hp) (x : V) (p : Int × Str) : Prop := ∃ t, x = .ref t ∧ H t = some (.tup [.int p.1, .str p.2])
theorem stays_is : Stays IsAt := fun _ _ _ _ t ⟨r, e, h⟩ => ⟨r, e, t _ _ h⟩
def dOf : V → PyData
  | .int n => .int n
  | .str z => .str z
  | _ => .none
def kOf (H : Hp) (x : V) : List PyData := (tupOf H x).map dOf
theorem kOf_at {H : Hp} {x : V} {p : Int × Str} (h : IsAt H x p) : kOf H x = [.int p.1, .str p.2] := by
  obtain ⟨t, rfl, h⟩ := h
  unfold kOf tupOf
  simp only [h]
  rfl
theorem top_one {H : Hp} {us ys : List V} {ps : List (Int × Str)} (pa : Paired (IsAt H) us ps) (ne : us ≠ []) (srt : SrtO.Srtd (NmD.ltV (kOf H)) ys) (stb : SrtO.Stb (NmD.ltV (kOf H)) ys us) : ∃ y0 ys' p, ys = y0 :: ys' ∧ p ∈ ps ∧ IsAt H y0 p ∧ ∀ q ∈ ps, p.1 ≤ q.1 := by
  cases ys with
  | nil => exact absurd (List.length_eq_zero_iff.mp stb.perm.length_eq.symm) ne
  | cons y0 ys =>
    obtain ⟨i, hi⟩ := List.mem_iff_getElem?.mp (stb.perm.mem_iff.mp List.mem_cons_self)
    obtain ⟨p, hp, ip⟩ := paired_at pa i y0 hi
    refine ⟨y0, ys, p, rfl, List.mem_of_getElem? hp, ip, fun q hq => ?_⟩
    obtain ⟨j, hj⟩ := List.mem_iff_getElem?.mp hq
    have lj := (List.getElem?_eq_some_iff.mp hj).1
    have el := paired_len pa
    have hu : us[j]? = some us[j] := List.getElem?_eq_getElem (by omega)
    obtain ⟨q', hq', iq⟩ := paired_at pa j _ hu
    have e : q' = q := Option.some.inj (hq'.symm.trans hj)
    subst e
    have my := stb.perm.mem_iff.mpr (List.mem_of_getElem? hu)
    rcases List.mem_cons.mp my with e | m
    · have a := kOf_at ip
      have b := kOf_at iq
      rw [e] at b
      have c := a.symm.trans b
      injection c with c1 c2
      injection c1 with c1
      omega
    · have z := SrtO.srtd_head srt _ m
      by_cases c : p.1 ≤ q'.1
      · exact c
      · have t : NmD.ltV (kOf H) us[j] y0 = true := by
          show PyProof.Rows.lexLt PyProof.Rows.itemOrd (PySem.W.keyToksAll (kOf H us[j])) (PySem.W.keyToksAll (kOf H y0)) = true
          rw [kOf_at ip, kOf_at iq, PySem.W.dataLt_all_no (by simp [PySem.W.alike]) (by rw [PyData.eqv]; exact decide_eq_false (by omega)), PySem.W.dataLt_int]
          exact decide_eq_true (by omega)
        rw [t] at z
        cases z
theorem val_own {rs : List (List Str)} {row l : List Str} (l60 : row.length ≤ 60) (hl : l ∈ nexts rs row) (lv : (val rs l).1 = false) : (val rs row).2 ≤ 1 + (val rs l).2 := by
  rw [val_eq rs l60]
  unfold stepV
  have m : (val rs l).2 ∈ (((nexts rs row).map (val rs)).filter fun t => !t.1).map (·.2) := List.mem_map.mpr ⟨_, List.mem_filter.mpr ⟨List.mem_map.mpr ⟨l, hl, rfl⟩, by rw [lv]; rfl⟩, rfl⟩
  generalize (((nexts rs row).map (val rs)).filter fun t => !t.1).map (·.2) = wn at m
  have ne : wn ≠ [] := fun e => by rw [e] at m; cases m
  show (if wn = [] then _ else _ : Bool × Int).2 ≤ _
  rw [if_neg ne]
  show 1 + wn.foldl min (wn.headD 0) ≤ 1 + _
  cases wn with
  | nil => exact absurd rfl ne
  | cons w wn =>
    have := (fold_minI (w :: wn) w).2 _ (List.mem_cons_of_mem _ m)
    show 1 + (w :: wn).foldl min w ≤ _
    omega
theorem val_oth {rs : List (List Str)} {row l : List Str} (l60 : row.length ≤ 60) (hl : l ∈ nexts rs row) (rv : (val rs row).1 = false) (top : ∀ k ∈ nexts rs row, (val rs k).2 ≤ (val rs l).2) : (val rs row).2 ≤ 1 + (val rs l).2 := by
  rw [val_eq rs l60] at rv ⊢
  unfold stepV at rv ⊢
  generalize hw : (((nexts rs row).map (val rs)).filter fun t => !t.1).map (·.2) = wn at rv ⊢
  by_cases ne : wn = []
  · show (if wn = [] then _ else _ : Bool × Int).2 ≤ _
    rw [if_pos ne]
    show (((nexts rs row).map (val rs)).map fun t => 1 + t.2).foldl max 0 ≤ _
    rcases List.mem_cons.mp (fold_maxI (((nexts rs row).map (val rs)).map fun t => 1 + t.2) 0).1 with e | m
    · rw [e]
      have := val_pos rs l
      omega
    · obtain ⟨t, ht, e⟩ := List.mem_map.mp m
      obtain ⟨k, hk, rfl⟩ := List.mem_map.mp ht
      rw [← e]
      have := top k hk
      show 1 + (val rs k).2 ≤ _
      omega
  · have rv' : (if wn = [] then _ else _ : Bool × Int).1 = false := rv
    rw [if_neg ne] at rv'
    cases rv'
section
variable {P : Program} {w : World} {K : PySem.W.Frag} {mg : Str → Option Value} {base : Heap}
def sp__law_behind_rows (K : PySem.W.Frag) : Sp := fun vs H Q _ => ∃ (tp : Addr), vs = [.ref tp] ∧ ∃ l, TapeAt H tp l ∧ ∀ H', TapeAt H' tp l → Mov tp H H' → Q (.bl true) H'
theorem c__law_behind_rows (T : Txt K mg) : Cal P w K mg base 9 "_law_behind_rows" (sp__law_behind_rows K) [] := by
  have C__law_game := c__law_game (P := P) (w := w) (base := base) T
  have C__law_results := c__law_results (P := P) (w := w) (base := base) T
  have C__law_some := c__law_some (P := P) (w := w) (base := base) T
  have C__law_words := c__law_words (P := P) (w := w) (base := base) T
  have C_behind := c_behind (P := P) (w := w) (base := base) T
  have C_let_words := c_let_words (P := P) (w := w) (base := base) T
  have C_moves_left := c_moves_left (P := P) (w := w) (base := base) T
  have C_plan := c_plan (P := P) (w := w) (base := base) T
  have C_winner := c_winner (P := P) (w := w) (base := base) T
  have sc := sc__law_behind_rows
  refine cal_of T.d__law_behind_rows sc (fun _ _ _ _ _ _ us hl => match us, hl with | [_], _ => rfl) (fun vs H Q E h => ?_) (fun f cdv A outer s H vs Q E hr h => ?_)
  · obtain ⟨tp, rfl, _⟩ := h
    rfl
  · obtain ⟨tp, rfl, h⟩ := h
    have C_someL := c__law_someL (P := P) (w := w) (base := base) T
    refine ⟨_, (pss_cons (ps_set (i := 1) sc.nd rfl (Or.inl rfl) (pe_c C__law_game hr (by omega) rfl (pa_cons (pv 0) (pa_cons pe_int pa_nil))))
  (pss_cons (ps_for PassesOwn.never rfl (pi_range1 rfl T.m_range (pa_cons pe_int pa_nil)) (pg_name (i := 2) sc.nd rfl (Or.inl rfl)) (pss_cons (ps_set (i := 3) sc.nd rfl (Or.inl rfl) (pe_c C__law_some hr (by omega) rfl (pa_cons (pv 0) (pa_cons (pv 1) pa_nil))))
  (pss_cons (ps_set (i := 4) sc.nd rfl (Or.inl rfl) (pe_c C_behind hr (by omega) rfl (pa_cons (pv 1) (pa_cons (pv 3) pa_nil))))
  (pss_cons (ps_set (i := 5) sc.nd rfl (Or.inl rfl) (pe_c C_winner hr (by omega) rfl (pa_cons (pv 4) (pa_cons (pe_tup pa_nil) pa_nil))))
  (pss_cons (ps_set (i := 6) sc.nd rfl (Or.inl rfl) (pe_c C_plan hr (by omega) rfl (pa_cons (pv 4) (pa_cons (pv 5) pa_nil))))
  (pss_cons (ps_if (PW.pt (pw_or (pt_cmpR op_isN (pv 6) pe_non (nomark _)) (pw_or1 (pt_cmpR op_notN (pe_c C_plan hr (by omega) rfl (pa_cons (pv 4) (pa_cons (pe_op op_sub pe_int (pv 5)) pa_nil))) pe_non (nomark _))))) (pss_one (ps_ret pe_bl)) pss_nil)
  (pss_cons (ps_set (i := 7) sc.nd rfl (Or.inr rfl) (pe_c C__law_results hr (by omega) rfl (pa_cons (pv 4) pa_nil)))
  (pss_one (ps_for PassesOwn.never rfl (pi_range1 rfl T.m_range (pa_cons pe_int pa_nil)) (pg_name (i := 8) sc.nd rfl (Or.inl rfl)) (pss_cons (ps_set (i := 9) sc.nd rfl (Or.inr rfl) (pe_tup pa_nil))
  (pss_cons (ps_set (i := 10) sc.nd rfl (Or.inl rfl) (pe_cmpR op_eq (pv 8) pe_int (nomark _)))
  (pss_cons (ps_for PassesOwn.never rfl (pi_range1 rfl T.m_range (pa_cons pe_int pa_nil)) (pg_name (i := 11) sc.nd rfl (Or.inl rfl)) (pss_cons (ps_set (i := 12) sc.nd rfl (Or.inl rfl) (pe_c C__law_words hr (by omega) rfl (pa_cons (pv 4) (pa_cons (pv 9) pa_nil))))
  (pss_cons (ps_if (pt_cmpR (op_neD hr.units) (pe_callTy call_list_of rfl T.m_list (by decide +kernel) (pa_cons (pe_c C_let_words hr (by omega) rfl (pa_cons (pv 1) (pa_cons (pe_op op_catA (pv 3) (pv 9)) pa_nil))) pa_nil)) (pv 12) (nomark _)) (pss_one (ps_ret pe_bl)) pss_nil)
  (pss_cons (ps_if (pt_cmpR op_eq (pe_callB (r := Nm.rLenS K) (id := "len") Nm.call_lenS rfl T.m_len (by decide +kernel) (pa_cons (pv 12) pa_nil)) pe_int (nomark _)) (pss_one ps_break) pss_nil)
  (pss_one (ps_if (pt_cmpR op_eq (pe_op op_mod (pe_callB (r := Nm.rLenS K) (id := "len") Nm.call_lenS rfl T.m_len (by decide +kernel) (pa_cons (pv 9) pa_nil)) pe_int) (pv 5) (nomark _)) (pss_cons (ps_if (pt_cmpR (op_notInD (u65 hr)) (pe_dget1 (hu_of hr) (pv 6) (pv 9) ⟨rfl, rfl, rfl, rfl⟩) (pv 12) rfl) (pss_one (ps_ret pe_bl)) pss_nil)
  (pss_one (ps_set (i := 9) sc.nd rfl (Or.inr rfl) (pe_op op_catA (pv 9) (pe_tup (pa_cons (pe_dget (hu_of hr) (pv 6) (pv 9) (fun _ _ => rfl)) pa_nil)))))) (pss_one (ps_if (pt_val (pv 10)) (pss_one (ps_set (i := 9) sc.nd rfl (Or.inr rfl) (pe_op op_catA (pv 9) (pe_tup (pa_cons (pe_ix ix_tup (pe_ix ix_list (pe_callB (NmD.cr_sortD (u66 hr)) rfl T.m_sorted (by decide +kernel) (pa_cons (pe_lc (own := [("word", 13)]) (g := gName 13) rfl sc.nd (pi_list (pv 12)) (blkOk_by (own := [("word", 13)]) (N := ["tape", "game", "turn", "row", "rest", "side", "told", "results", "line", "here", "slow", "step", "words", "word"]) (sc := defScope s__law_behind_rows) (by decide +kernel)) (fun _ _ _ _ _ => (pg_name (i := 13) sc.nd rfl (Or.inl rfl))) (fun _ _ _ _ _ => pts_nil) (fun _ _ _ _ _ => (pe_tup (pa_cons (pe_un un_neg (pe_ix (r := rIxT K) ix_tup (pe_dget (hu_of hr) (pv 7) (pe_op (r := rCatA K) op_catA (pv 9) (pe_tup (pa_cons (pv 13) pa_nil))) (fun _ _ => rfl)) pe_int (fun _ _ => rfl))) (pa_cons (pv 13) pa_nil))))) pa_nil)) pe_int (fun _ _ => rfl)) pe_int (fun _ _ => rfl)) pa_nil))))) (pss_one (ps_set (i := 9) sc.nd rfl (Or.inr rfl) (pe_op op_catA (pv 9) (pe_tup (pa_cons (pe_c C_someL hr (by omega) rfl (pa_cons (pv 0) (pa_cons (pv 12) pa_nil))) pa_nil)))))))))))))
  (pss_cons (ps_if (PW.pt (pw_or (pt_cmpR op_gt (pe_callB (r := Nm.rLenS K) (id := "len") Nm.call_lenS rfl T.m_len (by decide +kernel) (pa_cons (pe_c C__law_words hr (by omega) rfl (pa_cons (pv 4) (pa_cons (pv 9) pa_nil))) pa_nil)) pe_int (nomark _)) (pw_or1 (pt_cmpR op_eq (pe_op op_mod (pe_callB (r := Nm.rLenS K) (id := "len") Nm.call_lenS rfl T.m_len (by decide +kernel) (pa_cons (pv 9) pa_nil)) pe_int) (pv 5) (nomark _))))) (pss_one (ps_ret pe_bl)) pss_nil)
  (pss_one (ps_if (PW.pt (pw_and (pt_val (pv 10)) (pw_and1 (pt_cmpR op_lt (pe_callB (r := Nm.rLenS K) (id := "len") Nm.call_lenS rfl T.m_len (by decide +kernel) (pa_cons (pv 9) pa_nil)) (pe_c C_moves_left hr (by omega) rfl (pa_cons (pv 1) (pa_cons (pv 3) pa_nil))) (nomark _))))) (pss_one (ps_ret pe_bl)) pss_nil)))))))))))))))
  (pss_one (ps_ret pe_bl)))), ?_⟩
    obtain ⟨l, t0, q⟩ := h
    refine ⟨_, rfl, tp, 30, rfl, l, t0, by decide, by decide, fun p gs H1 gm G few lenr t1 mv1 => ?_⟩
    refine ⟨4, rfl, by decide, by decide, ?_⟩
    refine for_range (lo := 0) (n := 4) (fun i σ H2 => ∃ u2 u3 u4 u5 u6 u7 u8 u9 u10 u11 u12, σ = [some (.ref tp), some (.ref p), u2, u3, u4, u5, u6, u7, u8, u9, u10, u11, u12, none] ∧ TapeAt H2 tp l ∧ GmAt H2 p gs ∧ Mov tp H H2) ⟨_, _, _, _, _, _, _, _, _, _, _, rfl, t1, gm, mv1⟩ ?_ ?_
    rotate_left
    · rintro σ H2 ⟨u2, u3, u4, u5, u6, u7, u8, u9, u10, u11, u12, rfl, t2, _, mv2⟩
      exact q _ t2 mv2
    rintro i σ H2 hi ⟨u2, u3, u4, u5, u6, u7, u8, u9, u10, u11, u12, rfl, t2, gm2, mv2⟩
    clear gm t1 mv1
    obtain ⟨ys, hp2, pa2⟩ := id gm2
    have ely := paired_len pa2
    have one : 1 ≤ gs.length := List.length_pos_of_mem G.nil
    have fewG := G.few
    refine ⟨_, rfl, _, rfl, tp, p, rfl, l, ys, t2, hp2, by omega, by omega, fun y H3 my t3 mv3 => ?_⟩
    obtain ⟨i3, hi3⟩ := List.mem_iff_getElem?.mp my
    obtain ⟨row, hrow, r, rfl, hr2⟩ := paired_at pa2 i3 y hi3
    have mr := List.mem_of_getElem? hrow
    have rok := G.ok row mr
    have tk3 := (t2.keep mv3).tups
    have hr3 := tk3 _ _ hr2
    have gm3 := gm2.keep tk3
    have mv3' : Mov tp H H3 := mv2.trans mv3
    refine ⟨_, rfl, _, rfl, p, r, rfl, gs, row, gm3, G, hr3, mr, fun pr H4 g4 gmr => ?_⟩
    have GB := isG_behind G mr
    have x01 := win01 (behindOf gs row) []
    have hv : (val (behindOf gs row) []).2 = (val gs row).2 := by
      have e := (win_behind G (row := row) (more := []) (by rw [List.append_nil]; exact mr)).2
      rw [List.append_nil] at e
      exact e
    have hw : ∀ more, wordsAt (behindOf gs row) more = wordsAt gs (row ++ more) := fun more => words_behind G mr
    have hm : ∀ z, z ∈ behindOf gs row → row ++ z ∈ gs := fun z hz => mem_behind.mp hz
    have hl30 : ∀ z, z ∈ behindOf gs row → row.length + z.length < 30 := fun z hz => by
      have := lenr _ (hm z hz)
      rw [List.length_append] at this
      omega
    generalize hrs : behindOf gs row = rs at GB x01 hv hw hm hl30 gmr
    refine ⟨_, rfl, nought, fun e0 he0 => ?_⟩
    have ge := same_new (o := .tup []) he0
    refine ⟨pr, e0, rfl, _, [], gmr.keep (tups_same ge), GB, upd_same, GB.nil, fun H5 g5 => ?_⟩
    have g45 := ge.trans g5
    refine ⟨_, rfl, _, rfl, pr, _, rfl, _, gmr.keep (tups_same g45), GB, x01, fun _ H6 D Dn ks pl P0 _ g6 => ?_, fun ne => absurd rfl ne⟩
    have g46 := g45.trans g6
    refine ⟨_, rfl, rfl, _, rfl, iteN (nt rfl) ?_⟩
    refine ⟨_, rfl, _, rfl, _, _, rfl, rfl, pr, _, rfl, rs, gmr.keep (tups_same g46), GB, by omega, fun e => by omega, fun _ H7 g7 => ⟨rfl, _, rfl, iteN (nt rfl) ?_⟩⟩
    have g47 := g46.trans g7
    refine ⟨_, rfl, pr, rfl, rs, gmr.keep (tups_same g47), GB, GB.few, fun H8 D2 rsat g8 => ?_⟩
    have g48 := g47.trans g8
    have pl8 : PlAt H8 D rs ks := by
      obtain ⟨ents, a, b⟩ := pl
      exact ⟨ents, g8 _ _ (g7 _ _ a), b⟩
    have t8 : TapeAt H8 tp l := (t3.same g4).same g48
    have gm8 : GmAt H8 p gs := gm3.keep (tups_same (g4.trans g48))
    have gmr8 := gmr.keep (tups_same g48)
    have hr8 := g48 _ _ (g4 _ _ hr3)
    have mv8 : Mov tp H H8 := mv3'.trans (mov_same (g4.trans g48))
    clear gmr gm3 gm2 t3 t2 mv3' mv3 mv2 hp2 pa2 my hi3 tk3 g4 ge g5 g45 g6 g46 g7 g47 g8 g48 pl hr3 hr2 he0
    obtain ⟨inOwn, inOth⟩ := come_in P0
    have nilD : [] ∈ Dn := (List.nil_append Dn ▸ P0.nil : [] ∈ Dn)
    have subD : ∀ r ∈ Dn, r ∈ rs ∧ winS rs r = winS rs [] := fun r hr => P0.sub r (List.mem_append_right _ hr)
    refine ⟨4, rfl, by decide, by decide, ?_⟩
    generalize winS rs [] = x at *
    refine for_range (lo := 0) (n := 4) (fun j σ H9 => ∃ u8 u9 u10 u11 u12, σ = [some (.ref tp), some (.ref p), some (.int (0 + (i : Int))), some (.ref r), some (.ref pr), some (.int x), some (.ref D), some (.ref D2), u8, u9, u10, u11, u12, none] ∧ TapeAt H9 tp l ∧ Mov tp H8 H9) ⟨_, _, _, _, _, rfl, t8, Mov.refl _ _⟩ ?_ ?_
    rotate_left
    · rintro σ H9 ⟨u8, u9, u10, u11, u12, rfl, t9, mv9⟩
      exact ⟨_, _, _, _, _, _, _, _, _, _, _, rfl, t9, gm8.keep (t8.keep mv9).tups, mv8.trans mv9⟩
    rintro j σ H9 hj ⟨u8, u9, u10, u11, u12, rfl, t9, mv9⟩
    refine ⟨nought, fun h0 hh0 => ?_⟩
    have gh0 := same_new (o := .tup []) hh0
    refine ⟨_, rfl, rfl, ?_⟩
    generalize decide (V.int (0 + (j : Int)) = V.int 0) = slow
    have t9' := t9.same gh0
    have mv9' : Mov tp H8 (upd H9 h0 (.tup [])) := mv9.trans (mov_same gh0)
    have hh : upd H9 h0 (.tup []) h0 = some (.tup (([] : List Str).map V.str)) := upd_same
    generalize upd H9 h0 (.tup []) = H10 at t9' mv9' hh
    clear t9 mv9 hh0 gh0
    obtain ⟨entD, hD8, rdD⟩ := id pl8
    obtain ⟨entR, hR8, valR⟩ := id rsat
    have nl : ∀ {o : HO}, (∀ xs, o ≠ .lst xs) → ∀ {b : Addr} {H' : Hp}, Mov tp H8 H' → H8 b = some o → H' b = some o := @fun o n b H' m hb => (t8.keep m) _ _ hb n
    have kr : ∀ {H5 : Hp} {r5 : Addr} {ws : List Str}, H5 r5 = some (.tup (ws.map V.str)) → H5 r5 = some (.tup ((keyRow ws).map kV)) := fun h => by rw [kV_row]; exact h
    refine ⟨60, rfl, by decide, by decide, ?_⟩
    refine for_range (lo := 0) (n := 60) (fun k σ H11 => ∃ (h : Addr) (here : List Str) (u11 u12 : Option V), σ = [some (.ref tp), some (.ref p), some (.int (0 + (i : Int))), some (.ref r), some (.ref pr), some (.int x), some (.ref D), some (.ref D2), some (.int (0 + (j : Int))), some (.ref h), some (.bl slow), u11, u12, none] ∧ TapeAt H11 tp l ∧ Mov tp H8 H11 ∧ H11 h = some (.tup (here.map V.str)) ∧ here ∈ Dn ∧ here.length = k ∧ (slow = true → (val rs []).2 ≤ (here.length : Int) + (val rs here).2)) ⟨h0, [], _, _, rfl, t9', mv9', hh, nilD, rfl, fun _ => by show _ ≤ (0 : Int) + _; omega⟩ ?_ ?_
    rotate_left
    · rintro σ H11 ⟨h, here, u11, u12, rfl, t11, mv11, hh11, mh, lh, _⟩
      have := hl30 here (subD here mh).1
      omega
    rintro k σ H11 hk ⟨h, here, u11, u12, rfl, t11, mv11, hh11, mh, lh, inv⟩
    clear hh mv9' t9'
    have mhr := (subD here mh).1
    have hok := GB.ok here mhr
    have l30 := hl30 here mhr
    have gm11 := gm8.keep (t8.keep mv11).tups
    have gmr11 := gmr8.keep (t8.keep mv11).tups
    have hr11 := nl (o := .tup _) (fun _ e => nomatch e) mv11 hr8
    have hD11 := nl (o := .dT _) (fun _ e => nomatch e) mv11 hD8
    have hR11 := nl (o := .dT _) (fun _ e => nomatch e) mv11 hR8
    refine ⟨_, rfl, _, rfl, pr, h, rfl, rs, here, gmr11, GB, hh11, hok.2, GB.few, fun pw H12 g12 hpw => ?_⟩
    refine ⟨_, rfl, _, rfl, _, rfl, ?_⟩
    refine cat_tups (g12 _ _ hr11) (g12 _ _ hh11) (by rw [List.length_map, List.length_map]; omega) fun b H13 g13 hb => ?_
    have hb' : H13 b = some (.tup ((row ++ here).map V.str)) := by rw [List.map_append]; exact hb
    refine ⟨p, b, rfl, gs, row ++ here, gm11.keep (tups_same (g12.trans g13)), G, hb', hm _ mhr, fun pl2 H14 g14 hpl2 => ?_⟩
    refine ⟨pl2, _, rfl, .inr (SqT.of hpl2), fun D3 hD3 => ?_⟩
    have g15 := same_new (o := .lst ((wordsAt gs (row ++ here)).map V.str)) hD3
    have g1215 := g13.trans (g14.trans g15)
    have wok : ∀ z ∈ wordsAt rs here, wordOk z := fun z hz => (GB.ok _ (mem_words.mp hz)).2 z (List.mem_append_right _ (List.mem_singleton.mpr rfl))
    have wok2 : ∀ z ∈ wordsAt gs (row ++ here), wordOk z := fun z hz => by rw [← hw] at hz; exact wok z hz
    have hpw15 := g1215 _ _ hpw
    refine ⟨_, rfl, .list (rowL (wordsAt gs (row ++ here))), .list (rowL (wordsAt rs here)), .lst (SqL.of upd_same) (dpAll_row _), .lst (SqL.of hpw15) (dpAll_row _), shaped_rwL wok2, shaped_rwL wok, ?_⟩
    rw [PyData.eqv, eqv_rowL, hw, decide_eq_true rfl]
    refine ⟨_, rfl, iteN (nt rfl) ?_⟩
    have hh15 := g1215 _ _ (g12 _ _ hh11)
    have hD15 := g1215 _ _ (g12 _ _ hD11)
    have hR15 := g1215 _ _ (g12 _ _ hR11)
    have hr15 := g1215 _ _ (g12 _ _ hr11)
    have gmr15 := gmr11.keep (tups_same (g12.trans g1215))
    have gm15 := gm11.keep (tups_same (g12.trans g1215))
    have t15 := t11.same (g12.trans g1215)
    have mv15 := mv11.trans (mov_same (g12.trans g1215))
    generalize upd H14 D3 (.lst ((wordsAt gs (row ++ here)).map V.str)) = H15 at hpw15 hh15 hD15 hR15 hr15 gmr15 gm15 t15 mv15 g1215
    have g8r : ∀ b {xs : List V}, H8 b = some (.tup xs) → H15 b = some (.tup xs) := fun b xs e => nl (o := .tup xs) (fun _ e => nomatch e) mv15 e
    clear g15 g1215 hD3 hpl2 g14 hb hb' g13 hpw g12 gm11 gmr11 hr11 hD11 hR11 hh11 t11 mv11
    refine ⟨_, rfl, pw, _, rfl, .inl (SqL.of hpw15), rfl, _, rfl, ?_⟩
    rw [List.length_map, decI]
    have hn : nexts rs here = (wordsAt rs here).map fun w => here ++ [w] := nexts_words rs here
    refine ite2 (fun z => ?_) (fun z => ?_)
    · have w0 : wordsAt rs here = [] := List.eq_nil_of_length_eq_zero (by have := of_decide_eq_true z; omega)
      have n0 : nexts rs here = [] := by rw [hn, w0]; rfl
      refine ⟨_, rfl, _, rfl, pr, h, rfl, rs, here, gmr15, GB, hh15, hok.2, GB.few, fun pw2 H16 g16 hpw2 => ?_⟩
      refine ⟨pw2, _, rfl, .inl (SqL.of hpw2), _, _, rfl, rfl, _, rfl, ?_⟩
      rw [w0]
      refine iteN (nt rfl) ?_
      refine ⟨_, rfl, h, _, rfl, .inr (SqT.of (g16 _ _ hh15)), _, 2, rfl, rfl, (by show (0 : Int) < 2; decide), _, rfl, rfl, _, rfl, ?_⟩
      rw [List.length_map, decI]
      have nx : ¬ (here.length : Int) % 2 = x := fun e => by
        have b := (best_ok hok.1 (subD here mh).2 e).1
        rw [n0] at b
        cases b
      rw [decide_eq_false nx]
      refine iteF ?_
      refine ⟨_, rfl, _, rfl, ?_⟩
      refine ite2 (fun sl => ?_) (fun _ => ?_)
      · refine ⟨_, rfl, h, _, rfl, .inr (SqT.of (g16 _ _ hh15)), _, rfl, _, rfl, p, r, rfl, gs, row, gm15.keep (tups_same g16), G, g16 _ _ hr15, mr, fun H17 g17 => ⟨_, _, rfl, rfl, _, rfl, ?_⟩⟩
        have v := inv sl
        rw [val_none hok.1 n0] at v
        have v : (val rs []).2 ≤ (here.length : Int) + 0 := v
        rw [List.length_map, decide_eq_false (by omega)]
        exact iteF ⟨_, _, _, _, _, rfl, (t15.same g16).same g17, mv15.trans (mov_same (g16.trans g17))⟩
      · exact iteF ⟨_, _, _, _, _, rfl, t15.same g16, mv15.trans (mov_same g16)⟩
    refine ⟨_, rfl, h, _, rfl, .inr (SqT.of hh15), _, 2, rfl, rfl, (by show (0 : Int) < 2; decide), _, rfl, rfl, _, rfl, ?_⟩
    rw [List.length_map, decI]
    by_cases hm2 : (here.length : Int) % 2 = x
    · rw [decide_eq_true hm2]
      refine iteT ?_
      obtain ⟨b1, b2, b3, b4⟩ := best_ok hok.1 (subD here mh).2 hm2
      obtain ⟨mk, bD⟩ := inOwn here mh hm2
      obtain ⟨yv, hyv, eyv⟩ := rdD.get mk
      have eyv : yv = .str (lastW (bestOf rs here)) := eyv
      subst eyv
      have mw : lastW (bestOf rs here) ∈ wordsAt rs here := List.mem_map.mpr ⟨_, b1, rfl⟩
      refine ⟨_, rfl, D, rfl, .inr ⟨entD, .inl hD15⟩, _, rfl, _, DGet.t hD15 (kr hh15), _, rfl, ?_⟩
      rw [hyv]
      refine ⟨.str (lastW (bestOf rs here)), rowL (wordsAt rs here), .str _, .lst (SqL.of hpw15) (dpAll_row _), shaped_wd (wok _ mw), shaped_rwL wok, ?_⟩
      rw [any_str, decide_eq_true mw]
      refine ⟨_, rfl, iteN (nt rfl) ?_⟩
      refine ⟨_, rfl, _, rfl, _, rfl, D, _, rfl, hyv ▸ DGet.t hD15 (kr hh15), (by show 1 ≤ PySem.sizeLine; decide), fun c hc => ?_⟩
      have gc := same_new (o := .tup [V.str (lastW (bestOf rs here))]) hc
      refine cat_tups (gc _ _ hh15) upd_same (by rw [List.length_map]; show here.length + 1 ≤ 4000; omega) fun b2' H17 g17 hb2 => ?_
      have g1517 := gc.trans g17
      have vb := val_own hok.1 b1 b2
      have lb := nexts_len b1
      refine ⟨b2', bestOf rs here, _, _, rfl, t15.same g1517, mv15.trans (mov_same g1517), by rw [hb2, lastW_best b1], bD, by omega, fun sl => ?_⟩
      have := inv sl
      rw [lb]
      push_cast
      omega
    rw [decide_eq_false hm2]
    refine iteF ?_
    have rvF : (val rs here).1 = false := by
      cases e : (val rs here).1 with
      | false => rfl
      | true =>
        have wx := (subD here mh).2
        unfold winS at wx
        rw [e, if_pos rfl] at wx
        exact absurd wx hm2
    have wne : wordsAt rs here ≠ [] := fun e => z (decide_eq_true (by rw [e]; rfl))
    have ln6 : (wordsAt rs here).length ≤ 600 := by
      have e := congrArg List.length hn
      rw [List.length_map] at e
      have := List.length_filter_le (isNext here) rs
      have := GB.few
      unfold nexts at e
      omega
    have toN : ∀ w ∈ wordsAt rs here, here ++ [w] ∈ nexts rs here := fun w hw => mem_nexts.mpr ⟨mem_words.mp hw, w, rfl⟩
    have lone : PySem.sizeLine ≥ 1 := by decide
    refine ⟨_, rfl, _, rfl, ?_⟩
    refine ite2 (fun sl => ?_) (fun sl => ?_)
    · subst sl
      refine ⟨_, rfl, _, rfl, pw, rfl, ⟨_, SqL.of hpw15⟩, fun D4 hD4 => ?_⟩
      refine lcS (walk_list (K := K) (a := pw) (xs := (wordsAt rs here).map V.str)) stays_is (wordsAt rs here) (fun _ => true) (fun w => (-(val rs (here ++ [w])).2, w)) (List.length_map ..) (by omega) (fun H11 g11 => SqL.of (g11 _ _ hpw15)) hD4 ?_ ?_
      · rintro j2 x2 wd H16 H17 Nx hwd ⟨rfl, hx2⟩ sm _ yes
        rw [List.getElem?_map, hwd] at hx2
        cases hx2
        have mn : here ++ [wd] ∈ rs := mem_words.mp (List.mem_of_getElem? hwd)
        obtain ⟨yv, hyv, rv, rfl, hrv⟩ := valR _ mn
        have hrv16 := sm _ _ (g8r _ hrv)
        refine ⟨rfl, ?_⟩
        refine ⟨_, rfl, _, rfl, _, rfl, lone, fun c hc => ?_⟩
        have gc := same_new (o := .tup [V.str wd]) hc
        refine cat_tups (gc _ _ (sm _ _ hh15)) upd_same (by rw [List.length_map]; show here.length + 1 ≤ 4000; omega) fun b H18 g18 hb => ?_
        have hb' : H18 b = some (.tup ((keyRow (here ++ [wd])).map kV)) := by
          rw [kV_row, List.map_append]
          exact hb
        have g1618 := gc.trans g18
        refine ⟨D2, .ref rv, rfl, hyv ▸ DGet.t (g1618 _ _ (sm _ _ hR15)) hb', rv, _, 1, .int (val rs (here ++ [wd])).2, rfl, rfl, SqT.of (g1618 _ _ hrv16), rfl, _, rfl, _, rfl, two, fun T hT => ?_⟩
        exact yes rfl _ _ (g1618.trans (same_new hT)) ⟨T, rfl, upd_same⟩
      intro H16 g16 l16
      rw [filter_all] at l16
      obtain ⟨us, hB16, pu⟩ := l16
      have lu := paired_len pu
      rw [List.length_map] at lu
      have une : us ≠ [] := fun e => wne (List.eq_nil_of_length_eq_zero (by rw [← lu, e]; rfl))
      have each : ∀ x ∈ us, ∃ p ∈ (wordsAt rs here).map (fun w => (-(val rs (here ++ [w])).2, w)), IsAt H16 x p := fun x hx => by
        obtain ⟨i, hi⟩ := List.mem_iff_getElem?.mp hx
        obtain ⟨p, h1, h2⟩ := paired_at pu i x hi
        exact ⟨p, List.mem_of_getElem? h1, h2⟩
      refine ⟨D4, us, kOf H16, rfl, SqL.of hB16, fun x hx => ?_, fun x hx y hy => ?_, fun ys p srt stb hp => ?_⟩
      · obtain ⟨p, _, ip⟩ := each x hx
        rw [kOf_at ip]
        obtain ⟨t, rfl, ht⟩ := ip
        exact ⟨⟨t, rfl⟩, .tup (SqT.of ht) (.cons (.int _) (.cons (.str _) .nil)), by simp [NmD.pureAll, NmD.pureD], by simp [PyData.depthAll, PyData.depth]⟩
      · obtain ⟨p, _, ip⟩ := each x hx
        obtain ⟨p2, _, ip2⟩ := each y hy
        rw [kOf_at ip, kOf_at ip2]
        simp [PySem.W.alikeAll, PySem.W.alike]
      obtain ⟨y0, ys', pp, rfl, mp, ⟨t0', rfl, ht0⟩, top⟩ := top_one pu une srt stb
      obtain ⟨wd, mwd, rfl⟩ := List.mem_map.mp mp
      have gp := same_new (o := .lst (V.ref t0' :: ys')) hp
      refine ⟨p, _, 0, .ref t0', rfl, rfl, SqL.of upd_same, (show atI (V.ref t0' :: ys') ((0 : Nat) : Int) = some (V.ref t0') from atI_nat rfl), t0', _, 1, .str wd, rfl, rfl, SqT.of (gp _ _ ht0), rfl, lone, fun c hc => ?_⟩
      have gc := same_new (o := .tup [V.str wd]) hc
      have g1517 := g16.trans (gp.trans gc)
      refine cat_tups (g1517 _ _ hh15) upd_same (by rw [List.length_map]; show here.length + 1 ≤ 4000; omega) fun b2' H17 g17 hb2 => ?_
      have all := g1517.trans g17
      have vb := val_oth hok.1 (toN wd mwd) rvF fun k hk => by
        rw [hn] at hk
        obtain ⟨w2, mw2, rfl⟩ := List.mem_map.mp hk
        have := top _ (List.mem_map.mpr ⟨w2, mw2, rfl⟩)
        have : -(val rs (here ++ [wd])).2 ≤ -(val rs (here ++ [w2])).2 := this
        omega
      refine ⟨b2', here ++ [wd], _, _, rfl, t15.same all, mv15.trans (mov_same all), by rw [hb2, List.map_append]; rfl, inOth here mh hm2 _ (toN wd mwd), by rw [List.length_append, lh]; rfl, fun _ => ?_⟩
      have := inv rfl
      rw [List.length_append, List.length_singleton]
      push_cast
      omega
    · have pnt := str_ne_tape t15 hpw15
      have wpos : (wordsAt rs here).length ≠ 0 := fun e => wne (List.eq_nil_of_length_eq_zero e)
      refine ⟨_, rfl, _, rfl, _, rfl, tp, pw, rfl, l, _, t15, hpw15, pnt, by rw [List.length_map]; omega, by rw [List.length_map]; omega, fun y H16 my t16 mv16 => ?_⟩
      obtain ⟨wd, mwd, rfl⟩ := List.mem_map.mp my
      have hh16 := (t15.keep mv16).tups _ _ hh15
      refine ⟨lone, fun c hc => ?_⟩
      have gc := same_new (o := .tup [V.str wd]) hc
      refine cat_tups (gc _ _ hh16) upd_same (by rw [List.length_map]; show here.length + 1 ≤ 4000; omega) fun b2' H17 g17 hb2 => ?_
      have g1617 := gc.trans g17
      refine ⟨b2', here ++ [wd], _, _, rfl, t16.same g1617, (mv15.trans mv16).trans (mov_same g1617), by rw [hb2, List.map_append]; rfl, inOth here mh hm2 _ (toN wd mwd), by rw [List.length_append, lh]; rfl, fun e => absurd e sl⟩
end
end K07
namespace K07
open PySem L2 Nm
open C8 (Cal Mak pe_c pe_mk pe_gc)
open RZ (ItzT pi_zipA)
theorem RsAt.tape {H H' : Hp} {D tp l : Addr} {rs : List (List Str)} (h : RsAt H D rs) (t : TapeAt H tp l) (m : Mov tp H H') : RsAt H' D rs := by
  obtain ⟨ents, h1, h2⟩ := h
  refine ⟨ents, (t.keep m) _ _ h1 (fun _ e => nomatch e), fun k hk => ?_⟩
  obtain ⟨y, e1, e2⟩ := h2 k hk
  exact ⟨y, e1, stays_rc _ _ _ _ (t.keep m).tups e2⟩
theorem srt_rows {K : PySem.W.Frag} {H : Hp} {a : Addr} {xs : List V} {rs : List (List Str)} {Q : VK} (hs : SqL K H a xs) (pf : Paired (RwAt H) xs rs) (nd : rs.Nodup)
    (q : ∀ (ys : List V) (qs : List (List Str)) (p : Addr), Paired (RwAt (upd H p (.lst ys))) ys qs → qs.Pairwise bef → qs.Perm rs → H p = none → Q (.ref p) (upd H p (.lst ys))) : NmD.rSortD K [V.ref a] H Q := by
  refine ⟨a, xs, fun x => rowL (rowOf H x), rfl, hs, fun x hx => ?_, fun x _ y _ => alike_rowL _ _, fun ys p srt stb hp => ?_⟩
  · obtain ⟨i, hi⟩ := List.mem_iff_getElem?.mp hx
    obtain ⟨ws, _, r, rfl, hr⟩ := paired_at pf i x hi
    refine ⟨⟨r, rfl⟩, ?_, pure_rowL _, by rw [depth_rowL]; decide⟩
    show Dp K H (.ref r) (.tuple (rowL (rowOf H (.ref r))))
    rw [rowOf_at hr]
    exact dp_row hr
  · obtain ⟨s1, s2, s3⟩ := sorted_rows pf nd srt stb
    exact q ys _ p (paired_mono (fun _ _ => stays_rw _ _ _ _ (tups_same (same_new (o := .lst ys) hp))) s1) s2 s3 hp
theorem keys_rw {H : Hp} : ∀ {ents : List (List Key × V)} {bs : List Addr} {rs : List (List Str)}, IsKeys H ents bs → ents.map (·.1) = rs.map keyRow → Paired (RwAt H) (bs.map V.ref) rs
  | _, _, [], .nil, _ => .nil
  | _, _, _ :: _, .nil, e => by cases e
  | _, _, [], .cons _ _, e => by cases e
  | _, _, _ :: _, .cons h t, e => by
    rw [List.map_cons, List.map_cons] at e
    injection e with e1 e2
    rw [e1, kV_row] at h
    exact .cons ⟨_, rfl, h⟩ (keys_rw t e2)
theorem ent_key {ents : List (List Key × V)} {ks : List (List Str)} (h : ents.map (·.1) = ks.map keyRow) {i : Nat} {k : List Str} {key : List Key} {v : V} (hk : ks[i]? = some k) (he : ents[i]? = some (key, v)) : key = keyRow k := by
  have a : (ents.map (·.1))[i]? = some key := by rw [List.getElem?_map, he]; rfl
  rw [h, List.getElem?_map, hk] at a
  exact (Option.some.inj a).symm
section
variable {P : Program} {w : World} {K : PySem.W.Frag} {mg : Str → Option Value} {base : Heap}
def sp_law (K : PySem.W.Frag) : Sp := fun vs H Q _ => ∃ (a : Addr) (ns : List Int), vs = [.ref a] ∧ SqL K H a (ns.map V.int) ∧ ∀ H', Q (.bl true) H'
theorem ok_law {f : Addr} {fd : FuncData} (F : Fun K "law" "law" s_law f fd) (T : Txt K mg) : FnOk P w K mg base CX0 12 f fd ["script"] (sp_law K) := by
  have C__law_behind_rows := c__law_behind_rows (P := P) (w := w) (base := base) T
  have C__law_game := c__law_game (P := P) (w := w) (base := base) T
  have C__law_heap := c__law_heap (P := P) (w := w) (base := base) T
  have C__law_pick := c__law_pick (P := P) (w := w) (base := base) T
  have C__law_results := c__law_results (P := P) (w := w) (base := base) T
  have C__law_rows_by := c__law_rows_by (P := P) (w := w) (base := base) T
  have C__law_tape := c__law_tape (P := P) (w := w) (base := base) T
  have C__law_words := c__law_words (P := P) (w := w) (base := base) T
  have C_plan := c_plan (P := P) (w := w) (base := base) T
  have C_plan_fault := c_plan_fault (P := P) (w := w) (base := base) T
  have C_winner := c_winner (P := P) (w := w) (base := base) T
  have sc := sc_law
  refine F.ok (k := 11) sc (fun vs H Q E h => ?_) (fun cdv A outer s H vs Q E hr h => ?_)
  · obtain ⟨s0, ns, rfl, _⟩ := h
    rfl
  · obtain ⟨s0, ns, rfl, h⟩ := h
    refine ⟨_, (pss_cons (ps_set (i := 1) sc.nd rfl (Or.inl rfl) (pe_c C__law_tape hr (by omega) rfl (pa_cons (pv 0) pa_nil)))
  (pss_cons (ps_if (pt_not (pt_val (pe_c C__law_behind_rows hr (by omega) rfl (pa_cons (pv 1) pa_nil)))) (pss_one (ps_ret pe_bl)) pss_nil)
  (pss_cons (ps_for PassesOwn.never rfl (pi_range1 rfl T.m_range (pa_cons pe_int pa_nil)) (pg_name (i := 2) sc.nd rfl (Or.inl rfl)) (pss_cons (ps_set (i := 3) sc.nd rfl (Or.inr rfl) (pe_c C__law_game hr (by omega) rfl (pa_cons (pv 1) (pa_cons pe_int pa_nil))))
  (C8.pss_cut (ps_if (pt_cmpR op_eq (pe_c C__law_pick hr (by omega) rfl (pa_cons (pv 1) (pa_cons pe_int pa_nil))) pe_int (nomark _)) (pss_one (ps_set (i := 3) sc.nd rfl (Or.inr rfl) (pe_c C__law_heap hr (by omega) rfl (pa_cons (pe_op op_add pe_int (pe_c C__law_pick hr (by omega) rfl (pa_cons (pv 1) (pa_cons pe_int pa_nil)))) pa_nil)))) pss_nil)
  (pss_cons (ps_set (i := 4) sc.nd rfl (Or.inl rfl) (pe_c C__law_results hr (by omega) rfl (pa_cons (pv 3) pa_nil)))
  (pss_one (ps_for PassesOwn.never rfl (pi_list (pe_lst (pa_cons pe_int (pa_cons pe_int pa_nil)))) (pg_name (i := 5) sc.nd rfl (Or.inl rfl)) (pss_cons (ps_set (i := 6) sc.nd rfl (Or.inr rfl) (pe_c C_plan hr (by omega) rfl (pa_cons (pv 3) (pa_cons (pv 5) pa_nil))))
  (pss_cons (ps_if (PW.pt (pw_or (pt_cmpR op_ne (pe_cmpR op_isN (pv 6) pe_non (nomark _)) (pe_cmpR op_ne (pe_ix ix_tup (pe_dget (hu_of hr) (pv 4) (pe_tup pa_nil) (fun _ _ => rfl)) pe_int (fun _ _ => rfl)) (pv 5) (nomark _)) (nomark _)) (pw_or1 (pt_cmpR op_ne (pe_cmpR op_isN (pv 6) pe_non (nomark _)) (pe_cmpR op_ne (pe_c C_winner hr (by omega) rfl (pa_cons (pv 3) (pa_cons (pe_tup pa_nil) pa_nil))) (pv 5) (nomark _)) (nomark _))))) (pss_one (ps_ret pe_bl)) pss_nil)
  (pss_cons (ps_if (pt_cmpR op_isN (pv 6) pe_non (nomark _)) (pss_one ps_continue) pss_nil)
  (pss_cons (ps_if (PW.pt (pw_or (pt_not (pt_val (pe_callB call_isi rfl T.m_isinstance (by decide +kernel) (pa_cons (pv 6) (pa_cons (pe_bltn (v := .ty "dict") (u := .type "dict") rfl T.m_dict (by decide +kernel) rfl) pa_nil))))) (pw_or1 (pt_not (pt_val (pe_callB (cr_all rfl) rfl T.m_all (by decide +kernel) (pa_cons (pe_lock (pe_lc (own := [("row", 10)]) (g := gName 10) rfl sc.nd (pi_keys (pv 6)) (blkOk_by (own := [("row", 10)]) (N := ["script", "tape", "turn", "game", "results", "side", "told", "keys", "lacking", "ends", "row"]) (sc := defScope s_law) (by decide +kernel)) (fun _ _ _ _ _ => (pg_name (i := 10) sc.nd rfl (Or.inl rfl))) (fun _ _ _ _ _ => pts_nil) (fun _ _ _ _ _ => (pe_cmpR (r := rInD K) (op_inD (u65 hr)) (pe_dget (hu_of hr) (pv 6) (pv 10) (fun _ _ => rfl)) (pe_c C__law_words hr (by omega) rfl (pa_cons (pv 3) (pa_cons (pv 10) pa_nil))) rfl)))) pa_nil))))))) (pss_one (ps_ret pe_bl)) pss_nil)
  (pss_cons (ps_asg (pe_c C__law_rows_by hr (by omega) rfl (pa_cons (pv 3) (pa_cons (pv 5) (pa_cons (pv 6) pa_nil)))) (pg_tup rfl (pgs_cons (pg_name (i := 7) sc.nd rfl (Or.inl rfl)) (pgs_cons (pg_name (i := 8) sc.nd rfl (Or.inl rfl)) (pgs_cons (pg_name (i := 9) sc.nd rfl (Or.inl rfl)) pgs_nil)))))
  (pss_cons (ps_if (PW.pt (pw_or (pt_cmpR (op_neD hr.units) (pe_callB (NmD.cr_sortD (u66 hr)) rfl T.m_sorted (by decide +kernel) (pa_cons (pv 7) pa_nil)) (pe_callB (NmD.cr_sortD (u66 hr)) rfl T.m_sorted (by decide +kernel) (pa_cons (pe_callTy (call_list_dT rfl) rfl T.m_list (by decide +kernel) (pa_cons (pv 6) pa_nil)) pa_nil)) (nomark _)) (pw_or (pt_cmpR op_gt (pe_callB (r := Nm.rLenS K) (id := "len") Nm.call_lenS rfl T.m_len (by decide +kernel) (pa_cons (pv 8) pa_nil)) pe_int (nomark _)) (pw_or1 (pt_cmpR op_eq (pe_callB (r := Nm.rLenS K) (id := "len") Nm.call_lenS rfl T.m_len (by decide +kernel) (pa_cons (pv 9) pa_nil)) pe_int (nomark _)))))) (pss_one (ps_ret pe_bl)) pss_nil)
  (pss_cons (ps_if (PW.pt (pw_or (pt_cmpR op_notN (pe_c C_plan_fault hr (by omega) rfl (pa_cons (pv 3) (pa_cons (pv 5) (pa_cons (pv 6) pa_nil)))) pe_non (nomark _)) (pw_or1 (pt_cmpR (Nm.op_neT (hu_of hr)) (pe_c C_plan hr (by omega) rfl (pa_cons (pv 3) (pa_cons (pv 5) pa_nil))) (pv 6) (nomark _))))) (pss_one (ps_ret pe_bl)) pss_nil)
  (pss_cons (ps_expr (Nm.pe_clearT (pv 6)))
  (pss_one (ps_if (pt_cmpR op_ne (pe_callB call_len_dT rfl T.m_len (by decide +kernel) (pa_cons (pe_c C_plan hr (by omega) rfl (pa_cons (pv 3) (pa_cons (pv 5) pa_nil))) pa_nil)) (pe_callB (r := Nm.rLenS K) (id := "len") Nm.call_lenS rfl T.m_len (by decide +kernel) (pa_cons (pv 7) pa_nil)) (nomark _)) (pss_one (ps_ret pe_bl)) pss_nil))))))))))))))))
  (pss_one (ps_ret (pe_and (pe_cmpR op_isN (pe_c C_plan hr (by omega) rfl (pa_cons (pe_tup (pa_cons (pe_tup pa_nil) pa_nil)) (pa_cons pe_int pa_nil))) pe_non (nomark _)) (pe_one (pe_cmpR (Nm.op_eqE (Nat.lt_of_succ_lt (hu_of hr))) (pe_c C_plan hr (by omega) rfl (pa_cons (pe_tup (pa_cons (pe_tup pa_nil) pa_nil)) (pa_cons pe_int pa_nil))) pe_dnewK (nomark _))))))))), ?_⟩
    obtain ⟨hs, q⟩ := h
    refine ⟨_, rfl, s0, rfl, ns, hs, fun tp l H1 g1 htp t1 => ?_⟩
    refine ⟨_, rfl, tp, rfl, l, t1, fun H2 t2 mv2 => ⟨true, rfl, iteF ?_⟩⟩
    clear t1 g1 hs htp mv2
    refine ⟨3, rfl, by decide, by decide, ?_⟩
    refine for_range (lo := 0) (n := 3) (fun i σ H3 => ∃ v2 v3 v4 v5 v6 v7 v8 v9, σ = [some (.ref s0), some (.ref tp), v2, v3, v4, v5, v6, v7, v8, v9, none] ∧ TapeAt H3 tp l) ⟨_, _, _, _, _, _, _, _, rfl, t2⟩ ?_ ?_
    rotate_left
    · rintro σ H3 ⟨v2, v3, v4, v5, v6, v7, v8, v9, rfl, t3⟩
      have G1 : IsG [[]] := ⟨List.pairwise_singleton _ _, List.mem_singleton.mpr rfl, fun r hr => by rw [List.mem_singleton.mp hr]; exact List.mem_singleton.mpr rfl, fun r hr => by rw [List.mem_singleton.mp hr]; exact ⟨Nat.zero_le _, fun z hz => absurd hz (List.not_mem_nil)⟩, by decide⟩
      have w1 : winS [[]] [] = 1 := by
        unfold winS
        rw [val_none (Nat.zero_le _) (by decide), if_neg Bool.false_ne_true]
        rfl
      have lone : 1 ≤ PySem.sizeLine := by decide
      refine ⟨nought, fun e0 he0 => ⟨lone, fun g0 hg0 => ?_⟩⟩
      have k1 := same_new (o := .tup [V.ref e0]) hg0
      refine ⟨g0, 0, rfl, [[]], ⟨[.ref e0], upd_same, .cons ⟨e0, rfl, k1 _ _ upd_same⟩ .nil⟩, G1, .inl rfl, fun e => absurd (w1.symm.trans e) (by decide), fun _ H4 g4 => ?_⟩
      refine ⟨rfl, _, rfl, iteP rfl ?_⟩
      refine ⟨nought, fun e2 he2 => ⟨lone, fun g2 hg2 => ?_⟩⟩
      have k2 := same_new (o := .tup [V.ref e2]) hg2
      refine ⟨g2, 1, rfl, [[]], ⟨[.ref e2], upd_same, .cons ⟨e2, rfl, k2 _ _ upd_same⟩ .nil⟩, G1, .inr rfl, fun _ H5 D Dn ks pl P _ g5 => ?_, fun e => absurd w1 e⟩
      obtain ⟨ents, hD, rd⟩ := pl
      have e0 : ents = [] := by
        have ek : ks = [] := by
          cases ks with
          | nil => rfl
          | cons r ks =>
            obtain ⟨a, b⟩ := P.keys r List.mem_cons_self
            have m := (P.sub r (List.mem_append_right _ a)).1
            rw [List.mem_singleton.mp m] at b
            cases b
        have := rd.keys
        rw [ek] at this
        exact List.map_eq_nil_iff.mp this
      subst e0
      intro E hE
      exact ⟨D, E, rfl, rfl, same_new hE _ _ hD, upd_same, q _⟩
    rintro i σ H3 hi ⟨v2, v3, v4, v5, v6, v7, v8, v9, rfl, t3⟩
    refine ⟨_, rfl, tp, 40, rfl, l, t3, by decide, by decide, fun p gs H4 gm G few lenr t4 mv4 => ?_⟩
    refine ⟨fun σ5 H5 => ∃ (p : Addr) (gs : List (List Str)), σ5 = [some (.ref s0), some (.ref tp), some (.int (0 + (i : Int))), some (.ref p), v4, v5, v6, v7, v8, v9, none] ∧ TapeAt H5 tp l ∧ GmAt H5 p gs ∧ IsG gs, ?_, ?_⟩
    · refine ⟨_, rfl, tp, 24, rfl, l, t4, by decide, by decide, fun r H5 r0 r1 t5 mv5 => ?_⟩
      refine ⟨rfl, _, rfl, ?_⟩
      refine ite2 (fun z => ?_) (fun z => ?_)
      · refine ⟨_, rfl, tp, 3, rfl, l, t5, by decide, by decide, fun r2 H6 r20 r21 t6 mv6 => ?_⟩
        obtain ⟨n, rfl⟩ : ∃ n : Nat, r2 = (n : Int) := ⟨r2.toNat, by omega⟩
        refine ⟨_, _, rfl, rfl, 6 + n, ?_, ⟨by omega, by omega⟩, fun H7 p7 gm7 g7 => ?_⟩
        · show [V.int (6 + (n : Int))] = _
          congr 2
        · exact ⟨p7, _, rfl, t6.same g7, gm7, (heap_g ⟨by omega, by omega⟩).isG⟩
      · exact ⟨p, gs, rfl, t5, gm.keep (t4.keep mv5).tups, G⟩
    rintro σ5 H5 ⟨p, gs, rfl, t5, gm5, G⟩
    have few := G.few
    refine ⟨_, rfl, p, rfl, gs, gm5, G, few, fun H6 D2 rsat g6 => ?_⟩
    refine ⟨two, fun L hL => ?_⟩
    have gL := same_new (o := .lst [V.int 0, V.int 1]) hL
    have hL7 : upd H6 L (.lst [V.int 0, V.int 1]) L = some (.lst [V.int 0, V.int 1]) := upd_same
    have t7 := (t5.same g6).same gL
    have gm7 := gm5.keep (tups_same (g6.trans gL))
    have rs7 := rsat.same gL
    generalize upd H6 L (.lst [V.int 0, V.int 1]) = H7 at hL7 t7 gm7 rs7
    refine ⟨L, rfl, ⟨_, SqL.of hL7⟩, ?_⟩
    refine for_it (walk_list (K := K) (a := L) (xs := [V.int 0, V.int 1])) (fun i2 σ H8 => ∃ u5 u6 u7 u8 u9, σ = [some (.ref s0), some (.ref tp), some (.int (0 + (i : Int))), some (.ref p), some (.ref D2), u5, u6, u7, u8, u9, none] ∧ Same H7 H8) ⟨_, _, _, _, _, rfl, Same.refl _⟩ (fun i2 σ H8 _ ⟨_, _, _, _, _, _, g⟩ => SqL.of (g _ _ hL7)) ?_ ?_
    rotate_left
    · rintro σ H8 ⟨u5, u6, u7, u8, u9, rfl, g8⟩
      exact ⟨_, _, _, _, _, _, _, _, rfl, t7.same g8⟩
    rintro i2 y σ Hx H8 hi2 ⟨u5, u6, u7, u8, u9, rfl, g8⟩ ⟨rfl, hy⟩
    obtain ⟨x, rfl, x01⟩ : ∃ x : Int, y = .int x ∧ (x = 0 ∨ x = 1) := by
      have m := List.mem_of_getElem? hy
      simp only [List.mem_cons, List.not_mem_nil, or_false] at m
      rcases m with rfl | rfl
      · exact ⟨0, rfl, .inl rfl⟩
      · exact ⟨1, rfl, .inr rfl⟩
    obtain ⟨entR, hR, valR⟩ := id rs7
    obtain ⟨yv, hyv, rv, rfl, hrv⟩ := valR [] G.nil
    have kr0 : ∀ {H5 : Hp} {r5 : Addr}, H5 r5 = some (.tup []) → H5 r5 = some (.tup ((keyRow []).map kV)) := fun h => by rw [kV_row]; exact h
    refine ⟨_, rfl, _, rfl, p, x, rfl, gs, gm7.keep (tups_same g8), G, x01, fun hwin H9 D Dn ks pl P0 hDn g9 => ?_, fun hne H9 g9 => ?_⟩
    rotate_left
    · have g79 := g8.trans g9
      have fl : (!decide (V.int (winS gs []) = V.int x)) = true := by rw [decI, decide_eq_false hne]; rfl
      refine ⟨_, rfl, rfl, _, rfl, nought, fun e0 he0 => ?_⟩
      have ge := same_new (o := .tup []) he0
      refine ⟨D2, .ref rv, rfl, hyv ▸ DGet.t (ge _ _ (g79 _ _ hR)) (kr0 upd_same), rv, _, 0, .int (winS gs []), rfl, rfl, SqT.of (ge _ _ (g79 _ _ hrv)), rfl, _, rfl, rfl, rfl, _, rfl, ?_⟩
      rw [fl]
      refine iteN (nt rfl) ?_
      refine ⟨_, rfl, rfl, _, rfl, nought, fun e1 he1 => ?_⟩
      have ge1 := ge.trans (same_new (o := .tup []) he1)
      refine ⟨p, e1, rfl, gs, [], gm7.keep (tups_same (g79.trans ge1)), G, upd_same, G.nil, fun H10 g10 => ?_⟩
      refine ⟨_, rfl, rfl, rfl, _, rfl, ?_⟩
      rw [fl]
      refine iteN (nt rfl) ?_
      refine ⟨_, rfl, rfl, _, rfl, iteP rfl ?_⟩
      exact ⟨_, _, _, _, _, rfl, g79.trans (ge1.trans g10)⟩
    -- a plan
    have g79 := g8.trans g9
    have hDn8 : H8 D = none := hDn
    have hDn7 : H7 D = none := g8.free hDn8
    have fl : (!decide (V.int (winS gs []) = V.int x)) = false := by rw [decI, decide_eq_true hwin]; rfl
    refine ⟨_, rfl, rfl, _, rfl, nought, fun e0 he0 => ?_⟩
    have ge := same_new (o := .tup []) he0
    refine ⟨D2, .ref rv, rfl, hyv ▸ DGet.t (ge _ _ (g79 _ _ hR)) (kr0 upd_same), rv, _, 0, .int (winS gs []), rfl, rfl, SqT.of (ge _ _ (g79 _ _ hrv)), rfl, _, rfl, rfl, rfl, _, rfl, ?_⟩
    rw [fl]
    refine iteN (nt rfl) ?_
    refine ⟨_, rfl, rfl, _, rfl, nought, fun e1 he1 => ?_⟩
    have ge1 := ge.trans (same_new (o := .tup []) he1)
    refine ⟨p, e1, rfl, gs, [], gm7.keep (tups_same (g79.trans ge1)), G, upd_same, G.nil, fun H10 g10 => ?_⟩
    refine ⟨_, rfl, rfl, rfl, _, rfl, ?_⟩
    rw [fl]
    refine iteN (nt rfl) ?_
    refine ⟨_, rfl, rfl, _, rfl, iteN (nt rfl) ?_⟩
    have g910 := ge1.trans g10
    have g710 := g79.trans g910
    have pl10 : PlAt H10 D gs ks := by
      obtain ⟨ents, a, b⟩ := pl
      exact ⟨ents, g910 _ _ a, b⟩
    clear g910 g10 ge1 he1 ge he0 pl g79 g9 g8 hDn hDn8
    obtain ⟨ents, hD, rd⟩ := id pl10
    have gm10 := gm7.keep (tups_same g710)
    refine ⟨_, rfl, _, _, _, _, true, rfl, .ty _, .base (.dT hD), kit_ty (by decide +kernel), true, rfl, iteF ?_⟩
    have best : ∀ k ∈ ks, k ∈ gs ∧ bestOf gs k ∈ nexts gs k := fun k hk => by
      obtain ⟨a, b⟩ := P0.keys k hk
      have s := P0.sub k (List.mem_append_right _ a)
      exact ⟨s.1, (best_ok (G.ok k s.1).1 s.2 b).1⟩
    have lks : ks.length ≤ 600 := by
      have z := List.Nodup.length_le_of_subset rd.nd fun k hk => (best k hk).1
      omega
    have len : ents.length = ks.length := by
      have := congrArg List.length rd.keys
      rw [List.length_map, List.length_map] at this
      exact this
    refine ⟨D, .dT ents, hD, trivial, fun od => ?_⟩
    have hF : upd H10 D (.frz od (.dT ents)) D = some (.frz od (.dT ents)) := upd_same
    refine ⟨_, rfl, D, od, rfl, .inr ⟨ents, hF, fun D7 hD7 => ?_⟩⟩
    have ntp : ∀ {b : Addr} {us : List V}, H10 b = some (.tup us) → upd H10 D (.frz od (.dT ents)) b = some (.tup us) := fun {b us} h => by
      rw [upd_ne (fun e => by rw [e, hD] at h; cases h)]
      exact h
    have gmF : GmAt (upd H10 D (.frz od (.dT ents))) p gs := gm10.keep fun a us h => ntp h
    refine lcS (walk_keysT (d := D) (o := od) (kvs := ents)) stays_bl ks (fun _ => true) (fun _ => true) len (by omega) (fun H8 g8 => g8 _ _ hF) hD7 ?_ ?_
    · rintro i2 y k H8 H9 Nx hk ⟨rfl, key, v, qk, he, rfl, hq⟩ sm _ yes
      have ek := ent_key rd.keys hk he
      subst ek
      have mk := List.mem_of_getElem? hk
      obtain ⟨yv, hy, rfl⟩ := rd.get mk
      refine ⟨rfl, ?_⟩
      have hq' := hq
      rw [kV_row] at hq'
      have kok := G.ok k (best k mk).1
      have mw : lastW (bestOf gs k) ∈ wordsAt gs k := List.mem_map.mpr ⟨_, (best k mk).2, rfl⟩
      have wok : ∀ z ∈ wordsAt gs k, wordOk z := fun z hz => (G.ok _ (mem_words.mp hz)).2 z (List.mem_append_right _ (List.mem_singleton.mpr rfl))
      refine ⟨_, rfl, _, rfl, D, .str (lastW (bestOf gs k)), rfl, .inr ⟨ents, keyRow k, qk, .inr ⟨od, sm _ _ hF⟩, rfl, hq, hy.symm⟩, _, rfl, _, rfl, p, qk, rfl, gs, k, gmF.keep (tups_same sm), G, hq', kok.2, few, fun pw H11 g11 hpw => ?_⟩
      refine ⟨.str _, rowL (wordsAt gs k), .str _, .lst (SqL.of hpw) (dpAll_row _), shaped_wd (wok _ mw), shaped_rwL wok, ?_⟩
      rw [any_str, decide_eq_true mw]
      exact yes rfl _ _ g11 rfl
    intro H11 sm l11
    rw [filter_all] at l11
    have hB := sql_bl (K := K) l11
    refine ⟨sm _ _ hF, ?_⟩
    have g12 : Same H10 (upd H11 D (.dT ents)) := fun b o ho => by
      by_cases c : b = D
      · subst c
        rw [upd_same, ← hD, ho]
      · rw [upd_ne c]
        exact sm _ _ (by rw [upd_ne c]; exact ho)
    have hB12 : SqL K (upd H11 D (.dT ents)) D7 ((ks.map fun _ => true).map V.bl) := by
      obtain ⟨acc, h1, h2⟩ := l11
      have nD : D7 ≠ D := fun e => by rw [e, sm _ _ hF] at h1; cases h1
      refine sql_bl (K := K) ⟨acc, by rw [upd_ne nD]; exact h1, h2⟩
    have pl12 : PlAt (upd H11 D (.dT ents)) D gs ks := ⟨ents, upd_same, rd⟩
    have hD12 : upd H11 D (.dT ents) D = some (.dT ents) := upd_same
    have g712 := g710.trans g12
    generalize upd H11 D (.dT ents) = H12 at g12 hB12 pl12 hD12 g712
    refine ⟨D7, _, rfl, hB12, ?_⟩
    have all1 : (ks.map fun _ => true).all id = true := by rw [List.all_map]; exact List.all_eq_true.mpr fun _ _ => rfl
    rw [all1]
    refine ⟨_, rfl, iteN (nt rfl) ?_⟩
    clear l11 hB hB12 sm gmF ntp hF g12 gm10 hD pl10 g710 hD7
    have gm12 := gm7.keep (tups_same g712)
    -- the rows that come
    refine ⟨_, rfl, _, rfl, _, rfl, p, x, D, rfl, gs, Dn, ks, gm12, G, x01, pl12, P0, fun H13 T0 k1 l1 e1 km es g13 hT0 hk1 ndm memk hl1 he1 ene ele => ?_⟩
    refine ⟨T0, _, rfl, SqT.of hT0, rfl, _, _, rfl, _, _, rfl, _, _, rfl, rfl, ?_⟩
    have g713 := g712.trans g13
    have hD13 := g13 _ _ hD12
    obtain ⟨kz, hkz, pkz⟩ := id hk1
    refine ⟨_, rfl, ?_⟩
    dsimp only [tNil]
    refine srt_rows (SqL.of hkz) pkz ndm fun ys qs p1 pq uq pmq hp1 => ?_
    have gp1 := same_new (o := .lst ys) hp1
    refine ⟨_, rfl, D, ents, rfl, .inl (gp1 _ _ hD13), fun p2 bs hp2 hbs => ?_⟩
    have gp2 := same_new (o := .lst (bs.map V.ref)) hp2
    dsimp only [tNil]
    refine srt_rows (SqL.of upd_same) (paired_mono (fun _ _ => stays_rw _ _ _ _ (tups_same gp2)) (keys_rw hbs rd.keys)) rd.nd fun zs qs2 p3 pq2 uq2 pmq2 hp3 => ?_
    have gp3 := same_new (o := .lst zs) hp3
    have eqs : qs = qs2 := rows_one uq uq2 fun z => by rw [pmq.mem_iff, pmq2.mem_iff]; exact memk z
    subst eqs
    have okq : ∀ r ∈ qs, ∀ z ∈ r, wordOk z := fun r hr => (G.ok r (best r (pmq2.mem_iff.mp hr)).1).2
    refine ⟨.list (qs.map rowD), .list (qs.map rowD), .lst (SqL.of ((gp2.trans gp3) _ _ upd_same)) (dpAll_rows (paired_mono (fun _ _ => stays_rw _ _ _ _ (tups_same (gp2.trans gp3))) pq)), .lst (SqL.of upd_same) (dpAll_rows pq2), shaped_gameL okq, shaped_gameL okq, ?_⟩
    rw [PyData.eqv, eqv_rows, decide_eq_true rfl]
    refine ⟨_, rfl, iteN (nt rfl) ?_⟩
    have g16 := gp1.trans (gp2.trans gp3)
    have hl1' := g16 _ _ hl1
    have he1' := g16 _ _ he1
    have hD14 := g16 _ _ hD13
    have hk14 : LstOf RwAt (upd (upd (upd H13 p1 (.lst ys)) p2 (.lst (bs.map V.ref))) p3 (.lst zs)) k1 km := ⟨kz, g16 _ _ hkz, paired_mono (fun _ _ => stays_rw _ _ _ _ (tups_same g16)) pkz⟩
    have g714 := g713.trans g16
    generalize upd (upd (upd H13 p1 (.lst ys)) p2 (.lst (bs.map V.ref))) p3 (.lst zs) = H14 at hl1' he1' hD14 hk14 g714
    clear g16 gp3 gp2 gp1 pq2 pq hp1 hp2 hp3 hbs hkz pkz hk1 hD13 hl1 he1 g713 g13 hT0 gm12 g712 hD12 pl12
    refine ⟨_, rfl, l1, _, rfl, .inl (SqL.of hl1'), _, _, rfl, rfl, _, rfl, iteN (nt rfl) ?_⟩
    refine ⟨_, rfl, e1, _, rfl, .inl (SqL.of he1'), rfl, _, rfl, ?_⟩
    rw [decI, decide_eq_false (by have := List.length_pos_iff.mpr ene; omega)]
    refine iteF ?_
    have gm14 := gm7.keep (tups_same g714)
    -- no fault
    refine ⟨_, rfl, _, rfl, _, rfl, p, x, D, rfl, gs, Dn, ks, gm14, G, x01, ⟨ents, hD14, rd⟩, P0, fun H15 g15 => ⟨rfl, _, rfl, iteN (nt rfl) ?_⟩⟩
    have g715 := g714.trans g15
    have gm15 := gm7.keep (tups_same g715)
    refine ⟨_, rfl, _, rfl, p, x, rfl, gs, gm15, G, x01, fun _ H16 D' Dn' ks' pl' P' hDn' g16 => ?_, fun ne => absurd hwin ne⟩
    obtain ⟨ents', hD', rd'⟩ := pl'
    have sameK : ∀ z, z ∈ ks' ↔ z ∈ ks := keys_one P0 P'
    have len' : ents'.length = ks'.length := by
      have := congrArg List.length rd'.keys
      rw [List.length_map, List.length_map] at this
      exact this
    have lenK : ∀ {as cs : List (List Str)}, as.Nodup → cs.Nodup → (∀ z, z ∈ as ↔ z ∈ cs) → as.length = cs.length := fun a b h => Nat.le_antisymm (List.Nodup.length_le_of_subset a fun z hz => (h z).mp hz) (List.Nodup.length_le_of_subset b fun z hz => (h z).mpr hz)
    have hD16 := g16 _ _ (g15 _ _ hD14)
    refine ⟨_, rfl, D', D, ents', ents, rfl, rfl, hD', hD16, by rw [len', len]; exact lenK rd'.nd rd.nd sameK, fun pr hpr => ?_, _, rfl, iteF ?_⟩
    · have mk : pr.1 ∈ ks'.map keyRow := by rw [← rd'.keys]; exact List.mem_map.mpr ⟨pr, hpr, rfl⟩
      obtain ⟨k, hk, ek⟩ := List.mem_map.mp mk
      have e2 : pr.2 = V.str (lastW (bestOf gs k)) := rd'.vals pr hpr k ek.symm
      obtain ⟨yv2, hyv2, ey2⟩ := rd.get ((sameK k).mp hk)
      rw [← ek, hyv2, ey2, e2]
      exact ⟨rfl, rfl⟩
    have g716 := g715.trans g16
    have hk16 : LstOf RwAt H16 k1 km := by
      obtain ⟨kz, h1, h2⟩ := hk14
      exact ⟨kz, (g15.trans g16) _ _ h1, paired_mono (fun _ _ => stays_rw _ _ _ _ (tups_same (g15.trans g16))) h2⟩
    -- the told one is emptied
    refine ⟨_, rfl, .inr (.inr (.inl ⟨rfl, .inr ⟨_, hD16⟩⟩)), D, ents, rfl, rfl, hD16, ?_⟩
    have g717 : Same H7 (upd H16 D (.dT [])) := same_mut g716 hDn7
    have gm17 := gm7.keep (tups_same g717)
    obtain ⟨kz, hkz, pkz⟩ := hk16
    have hk17 : upd H16 D (.dT []) k1 = some (.lst kz) := by rw [upd_ne (fun e => by rw [e, hD16] at hkz; cases hkz)]; exact hkz
    have lkz := paired_len pkz
    refine ⟨_, rfl, _, rfl, p, x, rfl, gs, gm17, G, x01, fun _ H18 D3 Dn3 ks3 pl3 P3 hDn3 g18 => ?_, fun ne => absurd hwin ne⟩
    obtain ⟨ents3, hD3, rd3⟩ := pl3
    have len3 : ents3.length = ks3.length := by
      have := congrArg List.length rd3.keys
      rw [List.length_map, List.length_map] at this
      exact this
    refine ⟨D3, ents3, rfl, hD3, _, rfl, k1, kz, rfl, .inl (SqL.of (g18 _ _ hk17)), rfl, _, rfl, ?_⟩
    have el : ents3.length = kz.length := by
      rw [len3, lkz]
      exact lenK rd3.nd ndm fun z => (keys_one P0 P3 z).trans (memk z).symm
    rw [el, decide_eq_true rfl]
    exact iteF ⟨_, _, _, _, _, rfl, g717.trans g18⟩
end
end K07
namespace K07
open PySem L2 Nm
theorem all_mk {l : PySem.W.OpenLaw} {w : World} {K : PySem.W.Frag} {h : Heap} {mg : Str → Option Value} {fa  f1 f2 f3 f4 f5 f6 f7 f8 f9 f10 f11 f12 f13 f14 f15 f16 f17 f18 f19 f20 f21 f22 f23 f24 f25 f26 f27 f28 f29 f30 f31 f32 f33 : Addr} (X : K.In h) (G : h.Ns mainGlobals mg) (hfa : mg "law" = some (.ref fa))
    {od1 an1 od2 an2 od3 an3 od4 an4 od5 an5 od6 an6 od7 an7 od8 an8 od9 an9 od10 an10 od11 an11 od12 an12 od13 an13 od14 an14 od15 an15 od16 an16 od17 an17 od18 an18 od19 an19 od20 an20 od21 an21 od22 an22 od23 an23 od24 an24 od25 an25 od26 an26 od27 an27 od28 an28 od29 an29 od30 an30 od31 an31 od32 an32 od33 an33 : Option Addr} {sl1 sl2 sl3 sl4 sl5 sl6 sl7 sl8 sl9 sl10 sl11 sl12 sl13 sl14 sl15 sl16 sl17 sl18 sl19 sl20 sl21 sl22 sl23 sl24 sl25 sl26 sl27 sl28 sl29 sl30 sl31 sl32 sl33 : Array (Option Value)} {oc1 kV1 dc1 pm1 cd1 ct1 oc2 kV2 dc2 pm2 cd2 ct2 oc3 kV3 dc3 pm3 cd3 ct3 oc4 kV4 dc4 pm4 cd4 ct4 oc5 kV5 dc5 pm5 cd5 ct5 oc6 kV6 dc6 pm6 cd6 ct6 oc7 kV7 dc7 pm7 cd7 ct7 oc8 kV8 dc8 pm8 cd8 ct8 oc9 kV9 dc9 pm9 cd9 ct9 oc10 kV10 dc10 pm10 cd10 ct10 oc11 kV11 dc11 pm11 cd11 ct11 oc12 kV12 dc12 pm12 cd12 ct12 oc13 kV13 dc13 pm13 cd13 ct13 oc14 kV14 dc14 pm14 cd14 ct14 oc15 kV15 dc15 pm15 cd15 ct15 oc16 kV16 dc16 pm16 cd16 ct16 oc17 kV17 dc17 pm17 cd17 ct17 oc18 kV18 dc18 pm18 cd18 ct18 oc19 kV19 dc19 pm19 cd19 ct19 oc20 kV20 dc20 pm20 cd20 ct20 oc21 kV21 dc21 pm21 cd21 ct21 oc22 kV22 dc22 pm22 cd22 ct22 oc23 kV23 dc23 pm23 cd23 ct23 oc24 kV24 dc24 pm24 cd24 ct24 oc25 kV25 dc25 pm25 cd25 ct25 oc26 kV26 dc26 pm26 cd26 ct26 oc27 kV27 dc27 pm27 cd27 ct27 oc28 kV28 dc28 pm28 cd28 ct28 oc29 kV29 dc29 pm29 cd29 ct29 oc30 kV30 dc30 pm30 cd30 ct30 oc31 kV31 dc31 pm31 cd31 ct31 oc32 kV32 dc32 pm32 cd32 ct32 oc33 kV33 dc33 pm33 cd33 ct33 : Value} {tMOST_ROWS tMOST_WORDS : Tok}
    (a1 : PySem.W.nsIn K mainGlobals "is_integer" = some (some (.ref f1)))
    (l1 : K.lookup f1 = some ⟨oc1, od1, .func (PySem.W.fnOf "is_integer" "is_integer" (defArgs s_is_integer) (defBody s_is_integer) (defScope s_is_integer) .none kV1 dc1 pm1 an1 cd1 ct1), sl1⟩)
    (c1 : PySem.W.codeIn K cd1 "is_integer" = true)
    (k1 : PySem.W.keepIn K (.ref f1) = true)
    (a2 : PySem.W.nsIn K mainGlobals "is_within" = some (some (.ref f2)))
    (l2 : K.lookup f2 = some ⟨oc2, od2, .func (PySem.W.fnOf "is_within" "is_within" (defArgs s_is_within) (defBody s_is_within) (defScope s_is_within) .none kV2 dc2 pm2 an2 cd2 ct2), sl2⟩)
    (c2 : PySem.W.codeIn K cd2 "is_within" = true)
    (k2 : PySem.W.keepIn K (.ref f2) = true)
    (a3 : PySem.W.nsIn K mainGlobals "is_side" = some (some (.ref f3)))
    (l3 : K.lookup f3 = some ⟨oc3, od3, .func (PySem.W.fnOf "is_side" "is_side" (defArgs s_is_side) (defBody s_is_side) (defScope s_is_side) .none kV3 dc3 pm3 an3 cd3 ct3), sl3⟩)
    (c3 : PySem.W.codeIn K cd3 "is_side" = true)
    (k3 : PySem.W.keepIn K (.ref f3) = true)
    (a4 : PySem.W.nsIn K mainGlobals "is_lettered" = some (some (.ref f4)))
    (l4 : K.lookup f4 = some ⟨oc4, od4, .func (PySem.W.fnOf "is_lettered" "is_lettered" (defArgs s_is_lettered) (defBody s_is_lettered) (defScope s_is_lettered) .none kV4 dc4 pm4 an4 cd4 ct4), sl4⟩)
    (c4 : PySem.W.codeIn K cd4 "is_lettered" = true)
    (k4 : PySem.W.keepIn K (.ref f4) = true)
    (a5 : PySem.W.nsIn K mainGlobals "is_word" = some (some (.ref f5)))
    (l5 : K.lookup f5 = some ⟨oc5, od5, .func (PySem.W.fnOf "is_word" "is_word" (defArgs s_is_word) (defBody s_is_word) (defScope s_is_word) .none kV5 dc5 pm5 an5 cd5 ct5), sl5⟩)
    (c5 : PySem.W.codeIn K cd5 "is_word" = true)
    (k5 : PySem.W.keepIn K (.ref f5) = true)
    (a6 : PySem.W.nsIn K mainGlobals "is_words" = some (some (.ref f6)))
    (l6 : K.lookup f6 = some ⟨oc6, od6, .func (PySem.W.fnOf "is_words" "is_words" (defArgs s_is_words) (defBody s_is_words) (defScope s_is_words) .none kV6 dc6 pm6 an6 cd6 ct6), sl6⟩)
    (c6 : PySem.W.codeIn K cd6 "is_words" = true)
    (k6 : PySem.W.keepIn K (.ref f6) = true)
    (a7 : PySem.W.nsIn K mainGlobals "_law_tape" = some (some (.ref f7)))
    (l7 : K.lookup f7 = some ⟨oc7, od7, .func (PySem.W.fnOf "_law_tape" "_law_tape" (defArgs s__law_tape) (defBody s__law_tape) (defScope s__law_tape) .none kV7 dc7 pm7 an7 cd7 ct7), sl7⟩)
    (c7 : PySem.W.codeIn K cd7 "_law_tape" = true)
    (k7 : PySem.W.keepIn K (.ref f7) = true)
    (a8 : PySem.W.nsIn K mainGlobals "_law_pick" = some (some (.ref f8)))
    (l8 : K.lookup f8 = some ⟨oc8, od8, .func (PySem.W.fnOf "_law_pick" "_law_pick" (defArgs s__law_pick) (defBody s__law_pick) (defScope s__law_pick) .none kV8 dc8 pm8 an8 cd8 ct8), sl8⟩)
    (c8 : PySem.W.codeIn K cd8 "_law_pick" = true)
    (k8 : PySem.W.keepIn K (.ref f8) = true)
    (a9 : PySem.W.nsIn K mainGlobals "is_row" = some (some (.ref f9)))
    (l9 : K.lookup f9 = some ⟨oc9, od9, .func (PySem.W.fnOf "is_row" "is_row" (defArgs s_is_row) (defBody s_is_row) (defScope s_is_row) .none kV9 dc9 pm9 an9 cd9 ct9), sl9⟩)
    (c9 : PySem.W.codeIn K cd9 "is_row" = true)
    (k9 : PySem.W.keepIn K (.ref f9) = true)
    (a10 : PySem.W.nsIn K mainGlobals "is_ascending" = some (some (.ref f10)))
    (l10 : K.lookup f10 = some ⟨oc10, od10, .func (PySem.W.fnOf "is_ascending" "is_ascending" (defArgs s_is_ascending) (defBody s_is_ascending) (defScope s_is_ascending) .none kV10 dc10 pm10 an10 cd10 ct10), sl10⟩)
    (c10 : PySem.W.codeIn K cd10 "is_ascending" = true)
    (k10 : PySem.W.keepIn K (.ref f10) = true)
    (a11 : PySem.W.nsIn K mainGlobals "is_game" = some (some (.ref f11)))
    (l11 : K.lookup f11 = some ⟨oc11, od11, .func (PySem.W.fnOf "is_game" "is_game" (defArgs s_is_game) (defBody s_is_game) (defScope s_is_game) .none kV11 dc11 pm11 an11 cd11 ct11), sl11⟩)
    (c11 : PySem.W.codeIn K cd11 "is_game" = true)
    (k11 : PySem.W.keepIn K (.ref f11) = true)
    (a12 : PySem.W.nsIn K mainGlobals "check_game" = some (some (.ref f12)))
    (l12 : K.lookup f12 = some ⟨oc12, od12, .func (PySem.W.fnOf "check_game" "check_game" (defArgs s_check_game) (defBody s_check_game) (defScope s_check_game) .none kV12 dc12 pm12 an12 cd12 ct12), sl12⟩)
    (c12 : PySem.W.codeIn K cd12 "check_game" = true)
    (k12 : PySem.W.keepIn K (.ref f12) = true)
    (a13 : PySem.W.nsIn K mainGlobals "check_place" = some (some (.ref f13)))
    (l13 : K.lookup f13 = some ⟨oc13, od13, .func (PySem.W.fnOf "check_place" "check_place" (defArgs s_check_place) (defBody s_check_place) (defScope s_check_place) .none kV13 dc13 pm13 an13 cd13 ct13), sl13⟩)
    (c13 : PySem.W.codeIn K cd13 "check_place" = true)
    (k13 : PySem.W.keepIn K (.ref f13) = true)
    (a14 : PySem.W.nsIn K mainGlobals "let_words" = some (some (.ref f14)))
    (l14 : K.lookup f14 = some ⟨oc14, od14, .func (PySem.W.fnOf "let_words" "let_words" (defArgs s_let_words) (defBody s_let_words) (defScope s_let_words) .none kV14 dc14 pm14 an14 cd14 ct14), sl14⟩)
    (c14 : PySem.W.codeIn K cd14 "let_words" = true)
    (k14 : PySem.W.keepIn K (.ref f14) = true)
    (a15 : PySem.W.nsIn K mainGlobals "behind" = some (some (.ref f15)))
    (l15 : K.lookup f15 = some ⟨oc15, od15, .func (PySem.W.fnOf "behind" "behind" (defArgs s_behind) (defBody s_behind) (defScope s_behind) .none kV15 dc15 pm15 an15 cd15 ct15), sl15⟩)
    (c15 : PySem.W.codeIn K cd15 "behind" = true)
    (k15 : PySem.W.keepIn K (.ref f15) = true)
    (a16 : PySem.W.nsIn K mainGlobals "_law_words" = some (some (.ref f16)))
    (l16 : K.lookup f16 = some ⟨oc16, od16, .func (PySem.W.fnOf "_law_words" "_law_words" (defArgs s__law_words) (defBody s__law_words) (defScope s__law_words) .none kV16 dc16 pm16 an16 cd16 ct16), sl16⟩)
    (c16 : PySem.W.codeIn K cd16 "_law_words" = true)
    (k16 : PySem.W.keepIn K (.ref f16) = true)
    (a17 : PySem.W.nsIn K mainGlobals "mover" = some (some (.ref f17)))
    (l17 : K.lookup f17 = some ⟨oc17, od17, .func (PySem.W.fnOf "mover" "mover" (defArgs s_mover) (defBody s_mover) (defScope s_mover) .none kV17 dc17 pm17 an17 cd17 ct17), sl17⟩)
    (c17 : PySem.W.codeIn K cd17 "mover" = true)
    (k17 : PySem.W.keepIn K (.ref f17) = true)
    (a18 : PySem.W.nsIn K mainGlobals "next_rows" = some (some (.ref f18)))
    (l18 : K.lookup f18 = some ⟨oc18, od18, .func (PySem.W.fnOf "next_rows" "next_rows" (defArgs s_next_rows) (defBody s_next_rows) (defScope s_next_rows) .none kV18 dc18 pm18 an18 cd18 ct18), sl18⟩)
    (c18 : PySem.W.codeIn K cd18 "next_rows" = true)
    (k18 : PySem.W.keepIn K (.ref f18) = true)
    (a19 : PySem.W.nsIn K mainGlobals "solved" = some (some (.ref f19)))
    (l19 : K.lookup f19 = some ⟨oc19, od19, .func (PySem.W.fnOf "solved" "solved" (defArgs s_solved) (defBody s_solved) (defScope s_solved) .none kV19 dc19 pm19 an19 cd19 ct19), sl19⟩)
    (c19 : PySem.W.codeIn K cd19 "solved" = true)
    (k19 : PySem.W.keepIn K (.ref f19) = true)
    (a20 : PySem.W.nsIn K mainGlobals "winner" = some (some (.ref f20)))
    (l20 : K.lookup f20 = some ⟨oc20, od20, .func (PySem.W.fnOf "winner" "winner" (defArgs s_winner) (defBody s_winner) (defScope s_winner) .none kV20 dc20 pm20 an20 cd20 ct20), sl20⟩)
    (c20 : PySem.W.codeIn K cd20 "winner" = true)
    (k20 : PySem.W.keepIn K (.ref f20) = true)
    (a21 : PySem.W.nsIn K mainGlobals "_law_some" = some (some (.ref f21)))
    (l21 : K.lookup f21 = some ⟨oc21, od21, .func (PySem.W.fnOf "_law_some" "_law_some" (defArgs s__law_some) (defBody s__law_some) (defScope s__law_some) .none kV21 dc21 pm21 an21 cd21 ct21), sl21⟩)
    (c21 : PySem.W.codeIn K cd21 "_law_some" = true)
    (k21 : PySem.W.keepIn K (.ref f21) = true)
    (a22 : PySem.W.nsIn K mainGlobals "_law_word" = some (some (.ref f22)))
    (l22 : K.lookup f22 = some ⟨oc22, od22, .func (PySem.W.fnOf "_law_word" "_law_word" (defArgs s__law_word) (defBody s__law_word) (defScope s__law_word) .none kV22 dc22 pm22 an22 cd22 ct22), sl22⟩)
    (c22 : PySem.W.codeIn K cd22 "_law_word" = true)
    (k22 : PySem.W.keepIn K (.ref f22) = true)
    (a23 : PySem.W.nsIn K mainGlobals "_law_game" = some (some (.ref f23)))
    (l23 : K.lookup f23 = some ⟨oc23, od23, .func (PySem.W.fnOf "_law_game" "_law_game" (defArgs s__law_game) (defBody s__law_game) (defScope s__law_game) .none kV23 dc23 pm23 an23 cd23 ct23), sl23⟩)
    (c23 : PySem.W.codeIn K cd23 "_law_game" = true)
    (k23 : PySem.W.keepIn K (.ref f23) = true)
    (a24 : PySem.W.nsIn K mainGlobals "moves_left" = some (some (.ref f24)))
    (l24 : K.lookup f24 = some ⟨oc24, od24, .func (PySem.W.fnOf "moves_left" "moves_left" (defArgs s_moves_left) (defBody s_moves_left) (defScope s_moves_left) .none kV24 dc24 pm24 an24 cd24 ct24), sl24⟩)
    (c24 : PySem.W.codeIn K cd24 "moves_left" = true)
    (k24 : PySem.W.keepIn K (.ref f24) = true)
    (a25 : PySem.W.nsIn K mainGlobals "_law_results" = some (some (.ref f25)))
    (l25 : K.lookup f25 = some ⟨oc25, od25, .func (PySem.W.fnOf "_law_results" "_law_results" (defArgs s__law_results) (defBody s__law_results) (defScope s__law_results) .none kV25 dc25 pm25 an25 cd25 ct25), sl25⟩)
    (c25 : PySem.W.codeIn K cd25 "_law_results" = true)
    (k25 : PySem.W.keepIn K (.ref f25) = true)
    (a26 : PySem.W.nsIn K mainGlobals "check_side" = some (some (.ref f26)))
    (l26 : K.lookup f26 = some ⟨oc26, od26, .func (PySem.W.fnOf "check_side" "check_side" (defArgs s_check_side) (defBody s_check_side) (defScope s_check_side) .none kV26 dc26 pm26 an26 cd26 ct26), sl26⟩)
    (c26 : PySem.W.codeIn K cd26 "check_side" = true)
    (k26 : PySem.W.keepIn K (.ref f26) = true)
    (a27 : PySem.W.nsIn K mainGlobals "_law_heap" = some (some (.ref f27)))
    (l27 : K.lookup f27 = some ⟨oc27, od27, .func (PySem.W.fnOf "_law_heap" "_law_heap" (defArgs s__law_heap) (defBody s__law_heap) (defScope s__law_heap) .none kV27 dc27 pm27 an27 cd27 ct27), sl27⟩)
    (c27 : PySem.W.codeIn K cd27 "_law_heap" = true)
    (k27 : PySem.W.keepIn K (.ref f27) = true)
    (a28 : PySem.W.nsIn K mainGlobals "plan" = some (some (.ref f28)))
    (l28 : K.lookup f28 = some ⟨oc28, od28, .func (PySem.W.fnOf "plan" "plan" (defArgs s_plan) (defBody s_plan) (defScope s_plan) .none kV28 dc28 pm28 an28 cd28 ct28), sl28⟩)
    (c28 : PySem.W.codeIn K cd28 "plan" = true)
    (k28 : PySem.W.keepIn K (.ref f28) = true)
    (a29 : PySem.W.nsIn K mainGlobals "is_plan" = some (some (.ref f29)))
    (l29 : K.lookup f29 = some ⟨oc29, od29, .func (PySem.W.fnOf "is_plan" "is_plan" (defArgs s_is_plan) (defBody s_is_plan) (defScope s_is_plan) .none kV29 dc29 pm29 an29 cd29 ct29), sl29⟩)
    (c29 : PySem.W.codeIn K cd29 "is_plan" = true)
    (k29 : PySem.W.keepIn K (.ref f29) = true)
    (a30 : PySem.W.nsIn K mainGlobals "plan_fault" = some (some (.ref f30)))
    (l30 : K.lookup f30 = some ⟨oc30, od30, .func (PySem.W.fnOf "plan_fault" "plan_fault" (defArgs s_plan_fault) (defBody s_plan_fault) (defScope s_plan_fault) .none kV30 dc30 pm30 an30 cd30 ct30), sl30⟩)
    (c30 : PySem.W.codeIn K cd30 "plan_fault" = true)
    (k30 : PySem.W.keepIn K (.ref f30) = true)
    (a31 : PySem.W.nsIn K mainGlobals "_law_rows_by" = some (some (.ref f31)))
    (l31 : K.lookup f31 = some ⟨oc31, od31, .func (PySem.W.fnOf "_law_rows_by" "_law_rows_by" (defArgs s__law_rows_by) (defBody s__law_rows_by) (defScope s__law_rows_by) .none kV31 dc31 pm31 an31 cd31 ct31), sl31⟩)
    (c31 : PySem.W.codeIn K cd31 "_law_rows_by" = true)
    (k31 : PySem.W.keepIn K (.ref f31) = true)
    (a32 : PySem.W.nsIn K mainGlobals "_law_behind_rows" = some (some (.ref f32)))
    (l32 : K.lookup f32 = some ⟨oc32, od32, .func (PySem.W.fnOf "_law_behind_rows" "_law_behind_rows" (defArgs s__law_behind_rows) (defBody s__law_behind_rows) (defScope s__law_behind_rows) .none kV32 dc32 pm32 an32 cd32 ct32), sl32⟩)
    (c32 : PySem.W.codeIn K cd32 "_law_behind_rows" = true)
    (k32 : PySem.W.keepIn K (.ref f32) = true)
    (a33 : PySem.W.nsIn K mainGlobals "law" = some (some (.ref f33)))
    (l33 : K.lookup f33 = some ⟨oc33, od33, .func (PySem.W.fnOf "law" "law" (defArgs s_law) (defBody s_law) (defScope s_law) .none kV33 dc33 pm33 an33 cd33 ct33), sl33⟩)
    (c33 : PySem.W.codeIn K cd33 "law" = true)
    (k33 : PySem.W.keepIn K (.ref f33) = true)
    (z_all : PySem.W.nsIn K mainGlobals "all" = some none)
    (z_bool : PySem.W.nsIn K mainGlobals "bool" = some none)
    (z_dict : PySem.W.nsIn K mainGlobals "dict" = some none)
    (z_int : PySem.W.nsIn K mainGlobals "int" = some none)
    (z_isinstance : PySem.W.nsIn K mainGlobals "isinstance" = some none)
    (z_len : PySem.W.nsIn K mainGlobals "len" = some none)
    (z_list : PySem.W.nsIn K mainGlobals "list" = some none)
    (z_max : PySem.W.nsIn K mainGlobals "max" = some none)
    (z_min : PySem.W.nsIn K mainGlobals "min" = some none)
    (z_range : PySem.W.nsIn K mainGlobals "range" = some none)
    (z_sorted : PySem.W.nsIn K mainGlobals "sorted" = some none)
    (z_str : PySem.W.nsIn K mainGlobals "str" = some none)
    (z_tuple : PySem.W.nsIn K mainGlobals "tuple" = some none)
    (z_zip : PySem.W.nsIn K mainGlobals "zip" = some none)
    (g_MOST_ROWS : PySem.W.nsIn K mainGlobals "MOST_ROWS" = some (some (.int 600 tMOST_ROWS)))
    (g_MOST_WORDS : PySem.W.nsIn K mainGlobals "MOST_WORDS" = some (some (.int 60 tMOST_WORDS))) :
    ∃ fd : FuncData, (∀ (s : Shared) (v : Value), BindsTo s fd ⟨[v], []⟩ [("script", v)]) ∧ ∀ base : Heap, K.In base → base.Ns mainGlobals mg → FnOk l.prog w K mg base CX0 12 fa fd ["script"] (sp_law K) := by
  have e := hfa.symm.trans (PySem.W.mg_of X G a33)
  cases e
  have F1 := fun_mk (st := s_is_integer) l1 c1 k1
  have F2 := fun_mk (st := s_is_within) l2 c2 k2
  have F3 := fun_mk (st := s_is_side) l3 c3 k3
  have F4 := fun_mk (st := s_is_lettered) l4 c4 k4
  have F5 := fun_mk (st := s_is_word) l5 c5 k5
  have F6 := fun_mk (st := s_is_words) l6 c6 k6
  have F7 := fun_mk (st := s__law_tape) l7 c7 k7
  have F8 := fun_mk (st := s__law_pick) l8 c8 k8
  have F9 := fun_mk (st := s_is_row) l9 c9 k9
  have F10 := fun_mk (st := s_is_ascending) l10 c10 k10
  have F11 := fun_mk (st := s_is_game) l11 c11 k11
  have F12 := fun_mk (st := s_check_game) l12 c12 k12
  have F13 := fun_mk (st := s_check_place) l13 c13 k13
  have F14 := fun_mk (st := s_let_words) l14 c14 k14
  have F15 := fun_mk (st := s_behind) l15 c15 k15
  have F16 := fun_mk (st := s__law_words) l16 c16 k16
  have F17 := fun_mk (st := s_mover) l17 c17 k17
  have F18 := fun_mk (st := s_next_rows) l18 c18 k18
  have F19 := fun_mk (st := s_solved) l19 c19 k19
  have F20 := fun_mk (st := s_winner) l20 c20 k20
  have F21 := fun_mk (st := s__law_some) l21 c21 k21
  have F22 := fun_mk (st := s__law_word) l22 c22 k22
  have F23 := fun_mk (st := s__law_game) l23 c23 k23
  have F24 := fun_mk (st := s_moves_left) l24 c24 k24
  have F25 := fun_mk (st := s__law_results) l25 c25 k25
  have F26 := fun_mk (st := s_check_side) l26 c26 k26
  have F27 := fun_mk (st := s__law_heap) l27 c27 k27
  have F28 := fun_mk (st := s_plan) l28 c28 k28
  have F29 := fun_mk (st := s_is_plan) l29 c29 k29
  have F30 := fun_mk (st := s_plan_fault) l30 c30 k30
  have F31 := fun_mk (st := s__law_rows_by) l31 c31 k31
  have F32 := fun_mk (st := s__law_behind_rows) l32 c32 k32
  have F33 := fun_mk (st := s_law) l33 c33 k33
  have T : Txt K mg := ⟨⟨_, _, F1, PySem.W.mg_of X G a1⟩,
    ⟨_, _, F2, PySem.W.mg_of X G a2⟩,
    ⟨_, _, F3, PySem.W.mg_of X G a3⟩,
    ⟨_, _, F4, PySem.W.mg_of X G a4⟩,
    ⟨_, _, F5, PySem.W.mg_of X G a5⟩,
    ⟨_, _, F6, PySem.W.mg_of X G a6⟩,
    ⟨_, _, F7, PySem.W.mg_of X G a7⟩,
    ⟨_, _, F8, PySem.W.mg_of X G a8⟩,
    ⟨_, _, F9, PySem.W.mg_of X G a9⟩,
    ⟨_, _, F10, PySem.W.mg_of X G a10⟩,
    ⟨_, _, F11, PySem.W.mg_of X G a11⟩,
    ⟨_, _, F12, PySem.W.mg_of X G a12⟩,
    ⟨_, _, F13, PySem.W.mg_of X G a13⟩,
    ⟨_, _, F14, PySem.W.mg_of X G a14⟩,
    ⟨_, _, F15, PySem.W.mg_of X G a15⟩,
    ⟨_, _, F16, PySem.W.mg_of X G a16⟩,
    ⟨_, _, F17, PySem.W.mg_of X G a17⟩,
    ⟨_, _, F18, PySem.W.mg_of X G a18⟩,
    ⟨_, _, F19, PySem.W.mg_of X G a19⟩,
    ⟨_, _, F20, PySem.W.mg_of X G a20⟩,
    ⟨_, _, F21, PySem.W.mg_of X G a21⟩,
    ⟨_, _, F22, PySem.W.mg_of X G a22⟩,
    ⟨_, _, F23, PySem.W.mg_of X G a23⟩,
    ⟨_, _, F24, PySem.W.mg_of X G a24⟩,
    ⟨_, _, F25, PySem.W.mg_of X G a25⟩,
    ⟨_, _, F26, PySem.W.mg_of X G a26⟩,
    ⟨_, _, F27, PySem.W.mg_of X G a27⟩,
    ⟨_, _, F28, PySem.W.mg_of X G a28⟩,
    ⟨_, _, F29, PySem.W.mg_of X G a29⟩,
    ⟨_, _, F30, PySem.W.mg_of X G a30⟩,
    ⟨_, _, F31, PySem.W.mg_of X G a31⟩,
    ⟨_, _, F32, PySem.W.mg_of X G a32⟩,
    ⟨_, _, F33, PySem.W.mg_of X G a33⟩,
    PySem.W.mg_none_of X G z_all,
    PySem.W.mg_none_of X G z_bool,
    PySem.W.mg_none_of X G z_dict,
    PySem.W.mg_none_of X G z_int,
    PySem.W.mg_none_of X G z_isinstance,
    PySem.W.mg_none_of X G z_len,
    PySem.W.mg_none_of X G z_list,
    PySem.W.mg_none_of X G z_max,
    PySem.W.mg_none_of X G z_min,
    PySem.W.mg_none_of X G z_range,
    PySem.W.mg_none_of X G z_sorted,
    PySem.W.mg_none_of X G z_str,
    PySem.W.mg_none_of X G z_tuple,
    PySem.W.mg_none_of X G z_zip,
    ⟨_, PySem.W.mg_of X G g_MOST_ROWS, ⟨_, rfl⟩⟩,
    ⟨_, PySem.W.mg_of X G g_MOST_WORDS, ⟨_, rfl⟩⟩⟩
  exact ⟨PySem.W.fnOf "law" "law" (defArgs s_law) (defBody s_law) (defScope s_law) .none kV33 dc33 pm33 an33 cd33 ct33, fun s v => .of_eq rfl, fun base _ _ => ok_law F33 T⟩
theorem walk {l : PySem.W.OpenLaw} {q : Program} {loose : List Str} {XP : (Str → Option Value) → Heap → Prop} {YP : World → Heap → Prop} {d : DefRec} {K : Params → PySem.W.Frag} (hn : l.most = some 63) (hdf : d.params.defaults = [])
    (hY : ∀ (w : World) (h : Heap), YP w h → (K w.params).In h)
    (F : ∀ (w : World) (mg : Str → Option Value) (fa : Addr) (h : Heap), (K w.params).In h → h.Ns mainGlobals mg → mg d.name = some (.ref fa) →
      ∃ fd : FuncData, (∀ (s : Shared) (u : Value), BindsTo s fd ⟨[u], []⟩ [("script", u)]) ∧ ∀ base : Heap, (K w.params).In base → base.Ns mainGlobals mg → FnOk l.prog w (K w.params) mg base CX0 12 fa fd ["script"] (sp_law (K w.params))) :
    PySem.W.WalkO q loose XP YP l.row.toRowW d [] (fun f vs => PySem.call f vs) :=
  L2.walk_of (n := 63) (k := 12) (x := "script") (CX := fun _ => CX0) (sp := fun w => sp_law (K w.params)) hn (by decide) hdf ⟨rfl, by decide, by decide⟩ hY F (fun _ _ a ns hl _ hS => ⟨a, ns, rfl, hS, fun _ => rfl⟩) fun _ _ _ _ _ z => z
end K07
open PySem PySem.W PyProof.Rows
set_option maxRecDepth 100000 in
set_option maxHeartbeats 0 in
theorem PySem.Challenge.cw_untoldgames_k07_whole_plans_win_holds : PySem.Challenge.rw_untoldgames_k07_whole_plans_win.Holds := by
  w_on; o_law; k_head; (case hw => w_witness2)
  k_fill
  refine K07.walk (l := PySem.Challenge.rw_untoldgames_k07_whole_plans_win) rfl rfl (fun w h Y => PySem.W.kIn_of Y) ?F
  case F =>
    intro w mg fa h KX G hmg
    refine' K07.all_mk KX G hmg ?a1 ?l1 ?c1 ?k1 ?a2 ?l2 ?c2 ?k2 ?a3 ?l3 ?c3 ?k3 ?a4 ?l4 ?c4 ?k4 ?a5 ?l5 ?c5 ?k5 ?a6 ?l6 ?c6 ?k6 ?a7 ?l7 ?c7 ?k7 ?a8 ?l8 ?c8 ?k8 ?a9 ?l9 ?c9 ?k9 ?a10 ?l10 ?c10 ?k10 ?a11 ?l11 ?c11 ?k11 ?a12 ?l12 ?c12 ?k12 ?a13 ?l13 ?c13 ?k13 ?a14 ?l14 ?c14 ?k14 ?a15 ?l15 ?c15 ?k15 ?a16 ?l16 ?c16 ?k16 ?a17 ?l17 ?c17 ?k17 ?a18 ?l18 ?c18 ?k18 ?a19 ?l19 ?c19 ?k19 ?a20 ?l20 ?c20 ?k20 ?a21 ?l21 ?c21 ?k21 ?a22 ?l22 ?c22 ?k22 ?a23 ?l23 ?c23 ?k23 ?a24 ?l24 ?c24 ?k24 ?a25 ?l25 ?c25 ?k25 ?a26 ?l26 ?c26 ?k26 ?a27 ?l27 ?c27 ?k27 ?a28 ?l28 ?c28 ?k28 ?a29 ?l29 ?c29 ?k29 ?a30 ?l30 ?c30 ?k30 ?a31 ?l31 ?c31 ?k31 ?a32 ?l32 ?c32 ?k32 ?a33 ?l33 ?c33 ?k33 ?z_all ?z_bool ?z_dict ?z_int ?z_isinstance ?z_len ?z_list ?z_max ?z_min ?z_range ?z_sorted ?z_str ?z_tuple ?z_zip ?g_MOST_ROWS ?g_MOST_WORDS
    (case a1 => k_is)
    (case l1 => k_is)
    (case c1 => k_is)
    (case k1 => k_is)
    (case a2 => k_is)
    (case l2 => k_is)
    (case c2 => k_is)
    (case k2 => k_is)
    (case a3 => k_is)
    (case l3 => k_is)
    (case c3 => k_is)
    (case k3 => k_is)
    (case a4 => k_is)
    (case l4 => k_is)
    (case c4 => k_is)
    (case k4 => k_is)
    (case a5 => k_is)
    (case l5 => k_is)
    (case c5 => k_is)
    (case k5 => k_is)
    (case a6 => k_is)
    (case l6 => k_is)
    (case c6 => k_is)
    (case k6 => k_is)
    (case a7 => k_is)
    (case l7 => k_is)
    (case c7 => k_is)
    (case k7 => k_is)
    (case a8 => k_is)
    (case l8 => k_is)
    (case c8 => k_is)
    (case k8 => k_is)
    (case a9 => k_is)
    (case l9 => k_is)
    (case c9 => k_is)
    (case k9 => k_is)
    (case a10 => k_is)
    (case l10 => k_is)
    (case c10 => k_is)
    (case k10 => k_is)
    (case a11 => k_is)
    (case l11 => k_is)
    (case c11 => k_is)
    (case k11 => k_is)
    (case a12 => k_is)
    (case l12 => k_is)
    (case c12 => k_is)
    (case k12 => k_is)
    (case a13 => k_is)
    (case l13 => k_is)
    (case c13 => k_is)
    (case k13 => k_is)
    (case a14 => k_is)
    (case l14 => k_is)
    (case c14 => k_is)
    (case k14 => k_is)
    (case a15 => k_is)
    (case l15 => k_is)
    (case c15 => k_is)
    (case k15 => k_is)
    (case a16 => k_is)
    (case l16 => k_is)
    (case c16 => k_is)
    (case k16 => k_is)
    (case a17 => k_is)
    (case l17 => k_is)
    (case c17 => k_is)
    (case k17 => k_is)
    (case a18 => k_is)
    (case l18 => k_is)
    (case c18 => k_is)
    (case k18 => k_is)
    (case a19 => k_is)
    (case l19 => k_is)
    (case c19 => k_is)
    (case k19 => k_is)
    (case a20 => k_is)
    (case l20 => k_is)
    (case c20 => k_is)
    (case k20 => k_is)
    (case a21 => k_is)
    (case l21 => k_is)
    (case c21 => k_is)
    (case k21 => k_is)
    (case a22 => k_is)
    (case l22 => k_is)
    (case c22 => k_is)
    (case k22 => k_is)
    (case a23 => k_is)
    (case l23 => k_is)
    (case c23 => k_is)
    (case k23 => k_is)
    (case a24 => k_is)
    (case l24 => k_is)
    (case c24 => k_is)
    (case k24 => k_is)
    (case a25 => k_is)
    (case l25 => k_is)
    (case c25 => k_is)
    (case k25 => k_is)
    (case a26 => k_is)
    (case l26 => k_is)
    (case c26 => k_is)
    (case k26 => k_is)
    (case a27 => k_is)
    (case l27 => k_is)
    (case c27 => k_is)
    (case k27 => k_is)
    (case a28 => k_is)
    (case l28 => k_is)
    (case c28 => k_is)
    (case k28 => k_is)
    (case a29 => k_is)
    (case l29 => k_is)
    (case c29 => k_is)
    (case k29 => k_is)
    (case a30 => k_is)
    (case l30 => k_is)
    (case c30 => k_is)
    (case k30 => k_is)
    (case a31 => k_is)
    (case l31 => k_is)
    (case c31 => k_is)
    (case k31 => k_is)
    (case a32 => k_is)
    (case l32 => k_is)
    (case c32 => k_is)
    (case k32 => k_is)
    (case a33 => k_is)
    (case l33 => k_is)
    (case c33 => k_is)
    (case k33 => k_is)
    (case z_all => k_is)
    (case z_bool => k_is)
    (case z_dict => k_is)
    (case z_int => k_is)
    (case z_isinstance => k_is)
    (case z_len => k_is)
    (case z_list => k_is)
    (case z_max => k_is)
    (case z_min => k_is)
    (case z_range => k_is)
    (case z_sorted => k_is)
    (case z_str => k_is)
    (case z_tuple => k_is)
    (case z_zip => k_is)
    (case g_MOST_ROWS => k_is)
    (case g_MOST_WORDS => k_is)
#print axioms PySem.Challenge.cw_untoldgames_k07_whole_plans_win_holds
