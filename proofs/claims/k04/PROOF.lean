import PyProof.Rows.All
import Wide.All
import OpenK.AllK
import Wide.FinOn
import HandS.Base
import HandS.Call
import HandS.ForMost
import HandS.Star
import HandS.Defaults
import KE.KOpsOwn
import HandS.OwnEq
import HandS.Wide
import HandS.FStr
import HandS.DictComp
import HandS.ClsMeth
import HandS.IsInst
import HandS.StrMore
import HandS.Walk
import KE.KCallOwn
import PyProof.InstNe
import HandS.More
import HandS.RaiseMore
import KE.KRevSl
import PySem.Challenge.RW_owedanswers_k04_forms_equal
import HandS.Conv
set_option Elab.async false
set_option linter.all false
set_option maxRecDepth 100000
namespace KwX
open PySem PySem.Spec PyProof.Rows

section
variable {prog : Program} {w : World} {K : Type} [DecidableEq K] {knd : KeyKind prog w K} {A : Around} {E : Value → Shared → Prop} {s : Shared}

theorem find_none {d : Addr} {kvs : List (K × Value)} {k : K} {key : Value} {Q : Option Nat → Shared → Prop} (hkey : knd.is k key = true) (hm : s.heap.DictOf knd d kvs) (hn : k ∉ kvs.map (·.1)) (h : Q none s) :
    wpAny (model prog w) A (dictFind d key (knd.hash k)) Q E s := by
  obtain ⟨o, es, ep, ho, hc, hd, hk, hp, _⟩ := hm
  refine wpAny_dictFind_of hkey ho hd hk ?_
  have hidx : (es.findIdx? fun e => knd.is k e.key) = kvs.findIdx? fun kv => decide (kv.1 = k) := by
    rw [← hp.findIdx k]; obtain ⟨l⟩ := es; simp
  have hno : (kvs.findIdx? fun kv => decide (kv.1 = k)) = none := by
    rw [List.findIdx?_eq_none_iff]
    intro x hx
    refine decide_eq_false fun e => hn ?_
    exact List.mem_map.mpr ⟨x, hx, e⟩
  rw [hidx, hno]
  exact h
theorem put_new {d : Addr} {kvs : List (K × Value)} {k : K} {key v : Value} {Q : Unit → Shared → Prop} (hkey : knd.is k key = true) (hm : s.heap.DictOf knd d kvs) (hn : k ∉ kvs.map (·.1)) (hsz : kvs.length ≤ sizeLine)
    (h : ∀ h', h'.DictOf knd d (kvs ++ [(k, v)]) → Heap.SameBut d s.heap h' → Q () { s with heap := h' }) :
    wpAny (model prog w) A (dictPut d (knd.hash k) key v) Q E s := by
  unfold dictPut
  refine wpAny_bind (find_none hkey hm hn ?_)
  obtain ⟨o, es, ep, ho, hc, hd, hk, hp, hnd⟩ := hm
  have hes : es.size ≤ sizeLine := by have e1 := hp.length; have e2 : es.toList.length = es.size := by simp
                                      omega
  refine wpAny_updateDictKeys (hz := hes) ho hd (h _ ⟨_, _, ep + 1, Heap.get?_update_self _ ho (Obj.isFreed_of_dict (Obj.data_mapDictKeys hd _)),
      hc.mapDictKeys _, Obj.data_mapDictKeys hd _, hk.push hkey _, ?_, ?_⟩ (Heap.SameBut.update ..))
  · have := hp.append hkey (knd.hash k) v
    obtain ⟨l⟩ := es
    simpa using this
  · rw [List.map_append, List.nodup_append]
    refine ⟨hnd, by simp, ?_⟩
    intro a ha b hb
    simp only [List.map_cons, List.map_nil, List.mem_singleton] at hb
    subst hb
    exact fun e => hn (e ▸ ha)
theorem wpAny_merge_new {d o : Addr} {more : List (K × Value)} {Q : Unit → Shared → Prop} (hdo : d ≠ o) (hoS : (o == sysModules) = false)
    (hd : s.heap.DictOf knd d []) (ho : s.heap.DictOf knd o more) (hfl : ∀ k v, knd.is k v = true → ∀ a, v ≠ .ref a) (hsz : more.length ≤ sizeLine)
    (hQ : ∀ h', h'.DictOf knd d more → h'.DictOf knd o more → Heap.SameBut d s.heap h' → Q () { s with heap := h' }) :
    wpAny (model prog w) A (mergeMapping d (.ref o) true) Q E s := by
  obtain ⟨od, esd, epd, hod, hcd, hdd, hkd, hpd, hnd⟩ := id hd
  obtain ⟨oo, eso, epo, hoo, hco, hdo', hko, hpo, hno⟩ := id ho
  have hlen : more.length = eso.size := by rw [← hpo.length]; simp
  have hT : s.TypeIs (.ref o) "dict" := ho.typeIs
  have hlk := F.slot_dict_iter.lookup
  have hsub := isSubtype_dict_dict
  have hdt : s.TypeIs (.ref d) "dict" := hd.typeIs
  obtain ⟨hp0, g, dr, tk, os⟩ := s
  unfold mergeMapping
  repeat (first | with_reducible refine wpAny_dictEntries hod hdd ?_ | with_reducible refine wpAny_dictEntries hoo hdo' ?_ | with_reducible refine wpAny_dictEpoch hoo hdo' ?_ | wp_step)
  have he0 : esd = #[] := by
    have e1 := hpd.length
    simp only [Array.length_toList, List.length_nil] at e1
    exact Array.eq_empty_of_size_eq_zero e1
  rw [if_pos (by rw [he0]; rfl)]
  have key : ∀ (i : Nat) (hi : i < eso.size), ∃ kv, more[i]? = some kv ∧ knd.is kv.1 eso[i].key = true ∧ eso[i].hash = knd.hash kv.1 ∧ eso[i].val = kv.2 := fun i hi => by
    obtain ⟨⟨k, v⟩, hkv⟩ : ∃ kv, more[i]? = some kv := ⟨more[i]'(by rw [hlen]; exact hi), List.getElem?_eq_getElem _⟩
    obtain ⟨hkey, hval⟩ := hpo.get? (e := eso[i]) (by simp [hi]) hkv
    obtain ⟨k', hkey', hhash⟩ := hko eso[i] (Array.getElem_mem hi)
    obtain rfl : k' = k := knd.inj _ _ _ hkey' hkey
    exact ⟨_, hkv, hkey, hhash, hval⟩
  refine wpAny_bind (wpAny_dictEntries hoo hdo' ?_)
  refine wpAny_bind ?_
  refine MeetsSeq2.wpAny_forIn_array _ (fun rest _ s' => s' = ⟨hp0, g, dr, tk, os⟩ ∧ ∀ e ∈ rest, e ∈ eso) _ ?_ ?_ _ _ ⟨rfl, fun e he => Array.mem_toList_iff.mp he⟩
  · rintro e rest b s' ⟨rfl, hr⟩
    obtain ⟨i, hi, rfl⟩ := Array.mem_iff_getElem.mp (hr e List.mem_cons_self)
    obtain ⟨kv, _, hk1, _, _⟩ := key i hi
    have hnr := hfl _ _ hk1
    split
    · rename_i a ha
      exact absurd ha (hnr a)
    · exact wpAny_pure ⟨rfl, fun e he => hr e (List.mem_cons_of_mem _ he)⟩
  · rintro b s' ⟨rfl, _⟩
    refine wpAny_bind (wpAny_dictEntries hoo hdo' ?_)
    refine wpAny_bind (wpAny_dictEpoch hoo hdo' ?_)
    refine wpAny_bind ?_
    rw [List.range_eq_range']
    refine wpAny_forIn_list _
      (fun rest _ s' => ∃ h' i, s' = (⟨h', g, dr, tk, os⟩ : Shared) ∧ rest = List.range' i (eso.size - i) ∧ i ≤ eso.size ∧ h'.DictOf knd d (more.take i) ∧ h'.get? o = some oo ∧ Heap.SameBut d hp0 h')
      _ ?_ ?_ _ _ ⟨hp0, 0, rfl, by simp, Nat.zero_le _, by simpa using hd, hoo, Heap.SameBut.refl _ _⟩
    · rintro x rest b s' ⟨h', i, rfl, hr, hi, hd', hoo', hs'⟩
      have hlt : i < eso.size := by
        rcases Nat.lt_or_ge i eso.size with h | h
        · exact h
        · rw [Nat.sub_eq_zero_of_le h] at hr; simp at hr
      obtain ⟨rfl, hrest⟩ : x = i ∧ rest = List.range' (i + 1) (eso.size - (i + 1)) := by
        have e : eso.size - i = (eso.size - (i + 1)) + 1 := by omega
        rw [e, List.range'_succ] at hr
        injection hr with h1 h2
        exact ⟨h1, h2⟩
      refine wpAny_bind (wpAny_dictEntries hoo' hdo' ?_)
      rw [Array.getElem?_eq_getElem hlt]
      obtain ⟨⟨k, v⟩, hkv, hkey, hhash, hval⟩ := key x hlt
      have hmx : (more.take x).length ≤ sizeLine := by rw [List.length_take]; omega
      have hnew : k ∉ (more.take x).map (·.1) := fun hm => by
        rw [List.map_take] at hm
        obtain ⟨j, hj, ej⟩ := List.getElem_of_mem hm
        have hj' : j < x := by rw [List.length_take] at hj; omega
        have hx2 : (more.map (·.1))[x]? = some k := by rw [List.getElem?_map, hkv]; rfl
        have hj2 : (more.map (·.1))[j]? = some k := by
          rw [List.getElem_take] at ej
          rw [← ej]
          exact List.getElem?_eq_getElem _
        have := (List.getElem?_inj (i := j) (by rw [List.length_map]; omega) hno).mp (hj2.trans hx2.symm)
        omega
      show wpAny _ _ (holding [eso[x].key, eso[x].val] _ >>= _) _ _ _
      refine wpAny_bind (wpAny_holding ?_)
      rw [hhash, hval]
      refine wpAny_bind (find_none hkey hd' hnew ?_)
      show wpAny _ _ (dictPut d (knd.hash k) eso[x].key v) _ _ _
      refine put_new hkey hd' hnew hmx fun h'' hd'' hs'' => ?_
      have hoo'' : h''.get? o = some oo := (hs''.2 o (Ne.symm hdo)).trans hoo'
      refine wpAny_bind (wpAny_dictEpoch hoo'' hdo' ?_)
      rw [if_neg (by simp)]
      refine wpAny_pure ⟨h'', x + 1, rfl, hrest, hlt, ?_, hoo'', hs'.trans hs''⟩
      rw [List.take_add_one, hkv]
      exact hd''
    · rintro b s' ⟨h', i, rfl, hr, hi, hd', hoo', hs'⟩
      have hin : i = eso.size := by
        rcases Nat.lt_or_ge i eso.size with h | h
        · have e : eso.size - i = (eso.size - (i + 1)) + 1 := by omega
          rw [e, List.range'_succ] at hr; exact nomatch hr
        · exact Nat.le_antisymm hi h
      rw [hin, ← hlen, List.take_length] at hd'
      exact wpAny_pure (hQ h' hd' ⟨oo, eso, epo, hoo', hco, hdo', hko, hpo, hno⟩ hs')
end
end KwX

set_option Elab.async false
set_option linter.all false
set_option maxRecDepth 100000
namespace KwX
open PySem PySem.Spec PyProof.Rows

section
variable {prog : Program} {w : World} {A : Around} {E : Value → Shared → Prop} {s : Shared}
theorem nsSet_new {d : Addr} {kvs : List (L2.Key × Value)} {x : Str} {v : Value} {Q : Unit → Shared → Prop} (hm : s.heap.DictOf (L2.mixKind prog w) d kvs) (hn : (Sum.inr x : L2.Key) ∉ kvs.map (·.1))
    (h : ∀ h', h'.DictOf (L2.mixKind prog w) d (kvs ++ [(Sum.inr x, v)]) → Heap.SameBut d s.heap h' → Q () { s with heap := h', toks := s.toks + 1 }) :
    wpAny (model prog w) A (nsSet d x v) Q E s := fun Γ p _ => by
  obtain ⟨o, es, ep, ho, hc, hd, hk, hp, hnd⟩ := hm
  simp only [nsSet, strHash, Sem.wp_bind', Sem.wp_cmd_ask, Sem.wp_pure', Sem.wp_cmd_mkText]
  rw [Sem.wp_loadPart_of _ Γ _ p { s with toks := s.toks + 1 } (o := o) _ ho]
  have hany : es.any (·.refKey) = false := by
    rw [Array.any_eq_false']
    intro e he
    obtain ⟨k, h1, _⟩ := hk e he
    rcases L2.keyIs_shape (show L2.keyIs k e.key = true from h1) with ⟨i, t, _, e1⟩ | ⟨y, t, _, e1⟩ <;> simp [DictEntry.refKey, e1]
  simp only [hd, aRefKeyMayBeTheName_eq, aRefKeyMayBeTheNameByArray, hany, Bool.and_false, Bool.false_eq_true, if_false, Sem.wp_cmd_updatePart]
  refine ⟨by rw [ho]; rfl, h _ ?_ (Heap.SameBut.update ..)⟩
  obtain ⟨c, d', dt, sl⟩ := o
  simp only at hd
  subst hd
  have hfun : (fun e : DictEntry => e.key.isStr x) = fun e => (L2.mixKind prog w).is (Sum.inr x) e.key := funext fun e => ((L2.mixKind prog w).strs (Sum.inr x) x 0 e.key (L2.keyIs_str x 0)).symm
  have hi : es.findIdx? (·.key.isStr x) = none := by
    rw [hfun]
    have hidx : (es.findIdx? fun e => (L2.mixKind prog w).is (Sum.inr x) e.key) = kvs.findIdx? fun kv => decide (kv.1 = Sum.inr x) := by
      rw [← hp.findIdx (Sum.inr x)]; obtain ⟨l⟩ := es; simp
    rw [hidx, List.findIdx?_eq_none_iff]
    intro z hz
    exact decide_eq_false fun e => hn (List.mem_map.mpr ⟨z, hz, e⟩)
  refine ⟨_, es.push ⟨hashStr w x, .str x s.toks, v⟩, ep + 1, Heap.get?_update_self _ ho (by simp only [Obj.putName_eq, Obj.putNameByArray, hi]; rfl), by simp only [Obj.putName_eq, Obj.putNameByArray, hi]; exact hc, by simp only [Obj.putName_eq, Obj.putNameByArray, hi]; rfl, (show PySem.KeysOf (L2.mixKind prog w) (es.push ⟨(L2.mixKind prog w).hash (Sum.inr x), .str x s.toks, v⟩) from hk.push (L2.mixKind_str prog w x s.toks) v), ?_, ?_⟩
  · have := hp.append (L2.mixKind_str prog w x s.toks) (hashStr w x) v
    obtain ⟨l⟩ := es
    simpa using this
  · rw [List.map_append, List.nodup_append]
    refine ⟨hnd, by simp, ?_⟩
    intro a ha b hb
    simp only [List.map_cons, List.map_nil, List.mem_singleton] at hb
    subst hb
    exact fun e => hn (e ▸ ha)

/-- the keywords of a dict of texts -/
def kwOf (vs : List (L2.Key × Value)) : List (Str × Value) := vs.filterMap fun p => match p.1 with
  | .inr x => some (x, p.2)
  | .inl _ => none
theorem keywordsIn_ok {f : Value} {d : Addr} {vs : List (L2.Key × Value)} {Q : List (Str × Value) → Shared → Prop} (hm : s.heap.DictOf (L2.mixKind prog w) d vs) (hs : ∀ p ∈ vs, ∃ x, p.1 = Sum.inr x) (h : Q (kwOf vs) s) :
    wpAny (model prog w) A (keywordsIn f d) Q E s := by
  obtain ⟨o, es, ep, ho, hc, hd, hk, hp, hnd⟩ := hm
  unfold keywordsIn
  refine wpAny_bind (wpAny_dictEntries ho hd ?_)
  refine wpAny_bind ?_
  refine MeetsSeq2.wpAny_forIn_array _ (fun rest kw s' => s' = s ∧ ∃ (vs2 : List (L2.Key × Value)), Pairs (L2.mixKind prog w) rest vs2 ∧ (∀ p ∈ vs2, ∃ x, p.1 = Sum.inr x) ∧ kwOf vs = kw ++ kwOf vs2) _ ?_ ?_ _ _ ⟨rfl, vs, hp, hs, rfl⟩
  · rintro e rest kw s' ⟨rfl, vs2, hp2, hs2, e2⟩
    cases hp2 with
    | @cons _ kv _ kvs h1 h2 h3 =>
      obtain ⟨x, ex⟩ := hs2 kv List.mem_cons_self
      obtain ⟨k, v⟩ := kv
      simp only at ex h2
      subst ex
      obtain ⟨t, et⟩ : ∃ t, e.key = .str x t := by
        rcases L2.keyIs_shape (show L2.keyIs (Sum.inr x) e.key = true from h1) with ⟨i, t, z, _⟩ | ⟨y, t, z, e1⟩
        · cases z
        · cases z; exact ⟨t, e1⟩
      rw [et]
      refine wpAny_pure ⟨rfl, kvs, h3, fun p hp => hs2 p (List.mem_cons_of_mem _ hp), ?_⟩
      rw [e2, h2]
      show kw ++ ((x, v) :: kwOf kvs) = (kw ++ [(x, v)]) ++ kwOf kvs
      rw [List.append_assoc]
      rfl
  · rintro kw s' ⟨rfl, vs2, hp2, hs2, e2⟩
    cases hp2
    have e3 : kwOf vs = kw := by rw [e2]; show kw ++ [] = kw; rw [List.append_nil]
    rw [← e3]
    exact wpAny_pure h
end
end KwX

set_option Elab.async false
set_option linter.all false
set_option maxRecDepth 100000
namespace KwX
open PySem PySem.Spec PyProof.Rows

section
variable {prog : Program} {w : World} {A : Around} {E : Value → Shared → Prop} {s : Shared}
abbrev dict0 : Obj := { cls := .type "dict", data := .dict #[] }
theorem mixFlat : ∀ (k : L2.Key) (v : Value), (L2.mixKind prog w).is k v = true → ∀ a, v ≠ .ref a := fun k v h a e => by
  subst e
  rcases L2.keyIs_shape (show L2.keyIs k (.ref a) = true from h) with ⟨i, t, _, e1⟩ | ⟨y, t, _, e1⟩ <;> cases e1
theorem merged_one {f : Value} {x : Sem Value} {Q : Addr → Shared → Prop}
    (h : wpAny (model prog w) A x (fun v s2 => ∃ (o : Addr) (more : List (L2.Key × Value)), v = .ref o ∧ s.heap.objs.size ≠ o ∧ (o == sysModules) = false ∧ s2.heap.DictOf (L2.mixKind prog w) s.heap.objs.size [] ∧ s2.heap.DictOf (L2.mixKind prog w) o more ∧ more.length ≤ sizeLine ∧
      ∀ h', h'.DictOf (L2.mixKind prog w) s.heap.objs.size more → h'.DictOf (L2.mixKind prog w) o more → Heap.SameBut s.heap.objs.size s2.heap h' → Q s.heap.objs.size { s2 with heap := h' }) E { s with heap := s.heap.push dict0 }) :
    wpAny (model prog w) A (mergedKeywords f [(none, x)]) Q E s := by
  unfold mergedKeywords
  refine wpAny_bind (wpAny_alloc ?_)
  refine wpAny_bind (wpAny_holding ?_)
  refine wpAny_bind ?_
  refine wpAny_forIn_list _ (fun rest g s' => g = [] ∧ ((rest = [(none, x)] ∧ s' = { s with heap := s.heap.push dict0 }) ∨ (rest = [] ∧ Q s.heap.objs.size s'))) _ ?_ ?_ _ _ ⟨rfl, .inl ⟨rfl, rfl⟩⟩
  · rintro ⟨nm, y⟩ rest g s' ⟨rfl, ⟨e1, rfl⟩ | ⟨e1, _⟩⟩
    · injection e1 with e1 e2
      injection e1 with e3 e4
      subst e2 e3 e4
      refine wpAny_bind (wpAny_pure ?_)
      refine wpAny_bind (wpAny_mono h (fun v s2 hv => ?_) fun _ _ z => z)
      obtain ⟨o, more, rfl, hne, hsm, h0, ho, hz, hq⟩ := hv
      refine wpAny_bind (wpAny_onRaise ?_)
      refine wpAny_holding (wpAny_tryCatch (wpAny_onRaise ?_))
      exact wpAny_merge_new hne hsm h0 ho mixFlat hz fun h' a b c => wpAny_pure ⟨rfl, .inr ⟨rfl, hq h' a b c⟩⟩
    · cases e1
  · rintro g s' ⟨rfl, ⟨e1, _⟩ | ⟨_, q⟩⟩
    · cases e1
    · exact wpAny_pure (wpAny_pure q)
theorem evalArgs_one {f : Value} {y : Sem Value} {rest : List (Bool × Sem Value)} {x : Sem Value} {Q : Args → Shared → Prop}
    (h : wpAny (model prog w) A (spliced ((false, y) :: rest)) (fun us s => wpAny (model prog w) A x (fun v s2 => ∃ (o : Addr) (more : List (L2.Key × Value)), v = .ref o ∧ s.heap.objs.size ≠ o ∧ (o == sysModules) = false ∧ s2.heap.DictOf (L2.mixKind prog w) s.heap.objs.size [] ∧ s2.heap.DictOf (L2.mixKind prog w) o more ∧ more.length ≤ sizeLine ∧ (∀ p ∈ more, ∃ x, p.1 = Sum.inr x) ∧
      ∀ h', h'.DictOf (L2.mixKind prog w) s.heap.objs.size more → h'.DictOf (L2.mixKind prog w) o more → Heap.SameBut s.heap.objs.size s2.heap h' → Q ⟨us, kwOf more⟩ { s2 with heap := h' }) E { s with heap := s.heap.push dict0 }) E s) :
    wpAny (model prog w) A (evalArgs f true ((false, y) :: rest) [(none, x)]) Q E s := by
  unfold evalArgs
  show wpAny _ _ (spliced ((false, y) :: rest) >>= _) Q E s
  refine wpAny_bind (wpAny_mono h (fun us s1 h1 => ?_) fun _ _ z => z)
  refine wpAny_bind (wpAny_pure ?_)
  refine wpAny_holding ?_
  show wpAny _ _ (mergedKeywords f [(none, x)] >>= _) Q E s1
  refine wpAny_bind (merged_one (wpAny_mono h1 (fun v s2 hv => ?_) fun _ _ z => z))
  obtain ⟨o, more, rfl, hne, hsm, h0, ho, hz, hks, hq⟩ := hv
  refine ⟨o, more, rfl, hne, hsm, h0, ho, hz, fun h' a b c => ?_⟩
  refine wpAny_bind (wpAny_pure ?_)
  exact wpAny_bind (wpAny_holding (keywordsIn_ok a hks (wpAny_pure (hq h' a b c))))
open PySem.W in
theorem callWith_one {K : Frag} {pos : Pos} {f : Value} {first : List Value} {y : Sem Value} {rest : List (Bool × Sem Value)} {x : Sem Value} {Q : Value → Shared → Prop} (hk : keepIn K f = true)
    (h : wpAny (model prog w) A (evalArgs f true ((false, y) :: rest) [(none, x)]) (fun a s₁ => K.In s₁.heap ∧ wpAny (model prog w) A (call f (first ++ a.pos) a.kw) Q E s₁) E s) :
    wpAny (model prog w) A (callWith pos f first ((false, y) :: rest) [(none, x)]) Q E s := by
  unfold callWith
  refine wpAny_bind (wpAny_holding (wpAny_mono h (fun a s₁ h₁ => wpAny_bind (wpAny_standAt ?_)) fun _ _ x => x))
  obtain ⟨hK, h₁⟩ := h₁
  obtain ⟨k, hk', L⟩ := keeps_K (M := model prog w) hk _ hK
  have hs : (((false, y) :: rest).any (·.1) || ([((none : Option Str), x)] : List (Option Str × Sem Value)).any (·.1.isNone)) = true := by simp
  simp only [hs]
  refine wpAny_bind (L.here ?_)
  have tail : ∀ {t : Sem Value}, wpAny (model prog w) A t Q E s₁ → wpAny (model prog w) A (t >>= fun r => holding [r] point >>= fun _ => pure r) Q E s₁ :=
    fun ht => wpAny_bind (wpAny_mono ht (fun r s₂ hr => wpAny_bind (wpAny_holding (wpAny_point (wpAny_pure hr)))) fun _ _ x => x)
  have marked (mk : Value) : wpAny (model prog w) A (callMarked mk f (first ++ a.pos) a.kw) Q E s₁ := by unfold callMarked; exact Calls.wpAny_keep h₁
  rcases hk' with rfl | rfl | rfl <;> dsimp only <;> first | exact tail (marked _) | exact tail (wpAny_operating h₁)
end
end KwX

set_option Elab.async false
set_option linter.all false
set_option maxRecDepth 100000
namespace KwX
open PySem PySem.Spec PyProof.Rows

section
variable {prog : Program} {w : World} {A : Around} {E : Value → Shared → Prop} {s : Shared}
def kwKeys (kw : List (Str × Value)) : List (L2.Key × Value) := kw.map fun p => (Sum.inr p.1, p.2)
theorem kwKeys_nodup {kw : List (Str × Value)} (h : (kw.map (·.1)).Nodup) : ((kwKeys kw).map (·.1)).Nodup := by
  unfold kwKeys
  rw [List.map_map]
  show (kw.map (Sum.inr ∘ fun p => p.1)).Nodup
  rw [← List.map_map]
  refine List.pairwise_map.mpr (List.Pairwise.imp (fun {a b} hab e => hab (Sum.inr.inj e)) h)
theorem nsSets {d : Addr} {Q : PUnit → Shared → Prop} : ∀ (kw : List (Str × Value)) (acc : List (L2.Key × Value)) {s : Shared}, s.heap.DictOf (L2.mixKind prog w) d acc → ((acc ++ kwKeys kw).map (·.1)).Nodup →
    (∀ h' t', h'.DictOf (L2.mixKind prog w) d (acc ++ kwKeys kw) → Heap.SameBut d s.heap h' → Q ⟨⟩ { s with heap := h', toks := t' }) →
    wpAny (model prog w) A (List.foldlM (fun (_ : PUnit) a => nsSet d a.fst a.snd) PUnit.unit kw) Q E s
  | [], acc, s, hm, _, hQ => by
    rw [List.foldlM_nil]
    have e : acc ++ kwKeys [] = acc := List.append_nil _
    exact wpAny_pure (hQ s.heap s.toks (by rw [e]; exact hm) (Heap.SameBut.refl _ _))
  | (k, v) :: kw, acc, s, hm, hn, hQ => by
    rw [List.foldlM_cons]
    have hn1 : (Sum.inr k : L2.Key) ∉ acc.map (·.1) := fun hmem => by
      rw [List.map_append, List.nodup_append] at hn
      exact hn.2.2 _ hmem (Sum.inr k) (by show Sum.inr k ∈ (kwKeys ((k, v) :: kw)).map (·.1); exact List.mem_cons_self) rfl
    have ea : acc ++ kwKeys ((k, v) :: kw) = (acc ++ [(Sum.inr k, v)]) ++ kwKeys kw := by rw [List.append_assoc]; rfl
    refine wpAny_bind (nsSet_new hm hn1 fun h1 hm1 hs1 => ?_)
    rw [ea] at hn hQ
    exact nsSets kw (acc ++ [(Sum.inr k, v)]) (s := { s with heap := h1, toks := s.toks + 1 }) hm1 hn fun h' t' a b => hQ h' t' a (hs1.trans b)
theorem bind_form {fd : FuncData} {a b dv : Value} {p1 p2 p3 : Arg} {kw : List (Str × Value)} {first : List Value} {Q : List (Str × Value) → Shared → Prop}
    (e1 : fd.params.posonlyargs = []) (e2 : fd.params.args = [p1, p2]) (n1 : p1.arg = "self") (n2 : p2.arg = "constant") (e3 : fd.params.kwonlyargs = []) (e4 : fd.params.vararg = none) (e5 : fd.params.kwarg = some p3) (n3 : p3.arg = "coefficients")
    (hd : PySem.W.Looks (model prog w) s.heap (seqItems? fd.defaults) (some #[dv]))
    (hf : first = [a, b] ∨ (first = [a] ∧ b = dv)) (hk : ∀ p ∈ kw, p.1 ≠ "self" ∧ p.1 ≠ "constant") (hnd : (kw.map (·.1)).Nodup) (hl : kw.length ≤ sizeLine)
    (h : ∀ h' t', (∀ c o, s.heap.get? c = some o → h'.get? c = some o) → h'.DictOf (L2.mixKind prog w) s.heap.objs.size (kwKeys kw) → Q [("self", a), ("constant", b), ("coefficients", .ref s.heap.objs.size)] { s with heap := h', toks := t' }) :
    wpAny (model prog w) A (bindArgs fd ⟨first, kw⟩) Q E s := by
  unfold bindArgs
  simp only [e1, e2, e3, e4, e5, List.map_nil, List.map_cons, List.nil_append, n1, n2]
  refine wpAny_bind ?_
  refine wpAny_forIn_list _ (fun rest (st : List (Str × Value) × List (Str × Value)) s' => s' = s ∧ kw = st.2 ++ rest ∧ st.1 = ([Str.ofString "self", Str.ofString "constant"].zip first)) _ ?_ ?_ _ _ ⟨rfl, rfl, rfl⟩
  · rintro ⟨k, v⟩ rest ⟨sl, ex⟩ s' ⟨rfl, ekw, esl⟩
    simp only at ekw esl
    obtain ⟨h1, h2⟩ := hk (k, v) (by rw [ekw]; exact List.mem_append_right _ List.mem_cons_self)
    have hc : ([Str.ofString "self", Str.ofString "constant"].contains k || ([] : List Str).contains k) = false := by
      have g1 : (k == Str.ofString "self") = false := beq_eq_false_iff_ne.mpr h1
      have g2 : (k == Str.ofString "constant") = false := beq_eq_false_iff_ne.mpr h2
      simp only [List.contains_cons, List.contains_nil, g1, g2, Bool.or_false]
    simp only [hc, Bool.false_eq_true, if_false, Option.isSome_some, if_true]
    exact wpAny_pure ⟨rfl, by rw [ekw, List.append_assoc]; rfl, esl⟩
  · rintro ⟨sl, ex⟩ s' ⟨rfl, ekw, esl⟩
    simp only [List.append_nil] at ekw esl
    subst ekw esl
    refine wpAny_bind (hd _ _ _ _ (fun _ _ z => z) ?_)
    have hlen : ¬ (decide (first.length > [Str.ofString "self", Str.ofString "constant"].length) && (none : Option Arg).isNone) = true := by
      rcases hf with rfl | ⟨rfl, _⟩ <;> simp
    have sc : (Str.ofString "constant" == Str.ofString "self") = false := by decide +kernel
    have cs : (Str.ofString "self" == Str.ofString "constant") = false := by decide +kernel
    rw [if_neg hlen]
    have hz : ¬ (kw.length > sizeLine + 1) := by omega
    have fin : wpAny (model prog w) A (do
        let d ← alloc { cls := Value.type "dict", data := Data.dict #[] }
        (fun (_ : PUnit) => [(Str.ofString "self", a), (Str.ofString "constant", b), (p3.arg, Value.ref d)]) <$> List.foldlM (fun (_ : PUnit) a => nsSet d a.fst a.snd) PUnit.unit kw) Q E s' := by
      refine wpAny_bind (wpAny_alloc ?_)
      rw [map_eq_pure_bind]
      refine wpAny_bind (nsSets kw [] (Heap.DictOf.new s'.heap) (by rw [List.nil_append]; exact kwKeys_nodup hnd) fun h' t' hd' hs' => ?_)
      rw [n3]
      rw [List.nil_append] at hd'
      exact wpAny_pure (h h' t' (fun c o e => (hs'.2 c (Nat.ne_of_lt (Heap.lt_size e))).trans (Heap.get?_push_of_some _ e)) hd')
    rcases hf with rfl | ⟨rfl, rfl⟩
    · simp [List.lookup_cons, sc, cs, hz]
      exact fin
    · simp [List.lookup_cons, sc, cs, hz]
      exact fin
end
end KwX

set_option Elab.async false
set_option linter.all false
set_option maxRecDepth 100000
set_option maxHeartbeats 1000000
namespace KwX
open PySem PySem.Spec PyProof.Rows L2

/-- keywords: names with values -/
abbrev KwR (ks : List (Str × V)) (kw : List (Str × Value)) : Prop := Paired (fun (p : Str × V) (q : Str × Value) => p.1 = q.1 ∧ RelV p.2 q.2) ks kw
def keyed (ks : List (Str × V)) : List (Key × V) := ks.map fun p => (Sum.inr p.1, p.2)
theorem kwR_keys : ∀ {ks : List (Str × V)} {kw : List (Str × Value)}, KwR ks kw → kw.map (·.1) = ks.map (·.1)
  | _, _, .nil => rfl
  | _, _, .cons h r => by
    rw [List.map_cons, List.map_cons, kwR_keys r, h.1]
theorem kwR_kv : ∀ {ks : List (Str × V)} {kw : List (Str × Value)}, KwR ks kw → KV (keyed ks) (kwKeys kw)
  | _, _, .nil => .nil
  | _, _, .cons h r => .cons ⟨congrArg Sum.inr h.1, h.2⟩ (kwR_kv r)
section
variable {P : Program} {w : World} {K : PySem.W.Frag} {mg : Str → Option Value} {base : Heap} {A : Around} {outer : List Env} {s : Shared} {H : Hp}
theorem env0_kept {h' : Heap} {t' : Nat} {u : HO} (e0 : Env0 P w K mg base A outer s H) (kp : ∀ b o, s.heap.get? b = some o → h'.get? b = some o) (new : ObjOk P w (upd H s.heap.objs.size u) h' s.heap.objs.size u) :
    Env0 P w K mg base A outer { s with heap := h', toks := t' } (upd H s.heap.objs.size u) := by
  refine ⟨e0.frames, e0.mod, fun b x e => ⟨kp b x (e0.bs b x e).1, ?_⟩, ?_, Heap.FunFrames.of_keeps (fun b x e _ => ⟨x, kp b x e, rfl⟩) e0.funs, fun b hb => ?_, e0.hok.laid kp (Nat.le_refl _) new, e0.bare⟩
  · rw [upd_ne (Nat.ne_of_lt (Heap.lt_size (e0.bs b x e).1))]
    exact (e0.bs b x e).2
  · exact Nat.le_trans e0.bsz (Nat.le_of_lt new.lt)
  · obtain ⟨_, x, hx, _⟩ := e0.funs.mem hb
    rw [upd_ne (Nat.ne_of_lt (Heap.lt_size hx))]
    exact e0.frf b hb
end
/-- the shape of a def (self, constant=.., **coefficients) -/
structure KwPar (p : Arguments) : Prop where
  e1 : p.posonlyargs = []
  e2 : ∃ a b, p.args = [a, b] ∧ a.arg = "self" ∧ b.arg = "constant"
  e3 : p.kwonlyargs = []
  e4 : p.vararg = none
  e5 : ∃ c, p.kwarg = some c ∧ c.arg = "coefficients"
/-- the values ahead: constant's own, or the default -/
def kwFirst (dv : V) : List V → V
  | [] => dv
  | c :: _ => c
/-- what such a def keeps -/
def KwOk (P : Program) (w : World) (K : PySem.W.Frag) (mg : Str → Option Value) (base : Heap) (k : Nat) (f : Addr) (dv : V) (sp : Sp) : Prop :=
  ∀ (A : Around) (outer : List Env) (s : Shared) (H : Hp) (v0 : V) (u0 : Value) (vs : List V) (us : List Value) (ks : List (Str × V)) (kw : List (Str × Value)) (Q : VK) (E : XK), Room k A → Env0 P w K mg base A outer s H →
    RelV v0 u0 → Vals vs us → vs.length ≤ 1 → KwR ks kw → (∀ p ∈ ks, p.1 ≠ "self" ∧ p.1 ≠ "constant") → (ks.map (·.1)).Nodup → ks.length ≤ sizeLine →
    (∀ d, H d = none → sp [v0, kwFirst dv vs, .ref d] (upd H d (.dK (keyed ks))) Q E) →
    codeAny (model P w) A (.call (.ref f) ⟨u0 :: us, kw⟩) (CR CX0 outer P w H s Q E) s
section
variable {P : Program} {w : World} {K : PySem.W.Frag} {mg : Str → Option Value} {base : Heap} {k : Nat} {f : Addr} {name qual : Str} {params : Arguments} {body : List Stmt} {scope : Scope} {N : List Str} {sp : Sp} {dv : V} {fd : FuncData}
/-- a call of such a def -/
theorem run_kwdef (F : FunD K name qual params body scope [dv] [] f fd) (hp : KwPar params) (S : FnScope N ["self", "constant", "coefficients"] scope)
    (hbody : ∀ (cdv : Value) (A : Around) (outer : List Env) (s : Shared) (H : Hp) (vs : List V) (Q : VK) (E : XK), Room k (A.deeper (envOfC qual scope s.heap.objs.size f cdv)) → sp vs H Q E →
      ∃ t, PSs (cxOf CX0 P w K mg base N qual scope f cdv A outer s H E).nox body t ∧ t { nx := fun _ H' => Q .non H', rt := Q } (start N vs) H)
: KwOk P w K mg base (k + 1) f dv sp := by
  intro A outer s H v0 u0 vs us ks kw Q E hr e0 r0 r hl rk hk hnd hz h
  obtain ⟨oc, od, dV, kV, doc, pm, an, cdv, ct, osl, rfl, lk, hcd, hD, _⟩ := F.ex
  obtain ⟨a1, a2, ea, en1, en2⟩ := hp.e2
  obtain ⟨a3, ea3, en3⟩ := hp.e5
  rcases hD with ⟨e, _⟩ | ⟨_, T, o, its, n, rfl, lT, oT, rT⟩
  · cases e
  cases rT with
  | @cons _ du _ _ rd rn =>
  cases rn
  have KX : K.In s.heap := e0.mod.kin.keeps fun b o e => (e0.bs b o e).1
  have hn : H s.heap.objs.size = Option.none := e0.hok.fresh (Nat.le_refl _)
  have hdef : PySem.W.Looks (model P w) s.heap (seqItems? (.ref T)) (some #[du]) := fun A Q E s kp q => wpAny_seqItems (kp _ _ (KX _ _ lT)) oT q
  obtain ⟨b, hf, rb⟩ : ∃ b, (u0 :: us = [u0, b] ∨ (u0 :: us = [u0] ∧ b = du)) ∧ RelV (kwFirst dv vs) b := by
    cases r with
    | nil => exact ⟨du, .inr ⟨rfl, rfl⟩, rd⟩
    | cons rx rr =>
      cases rr with
      | nil => exact ⟨_, .inl rfl, rx⟩
      | cons _ _ => exact absurd hl (by simp)
  have kk := kwR_keys rk
  refine StX.run_bnd (P := P) (w := w) (k := k) (ps := ["self", "constant", "coefficients"]) lk hcd S hr e0 (G := fun xs H2 => ∃ d, H d = Option.none ∧ xs = [v0, kwFirst dv vs, V.ref d] ∧ H2 = upd H d (.dK (keyed ks))) (fun A' Ex Q' hq => ?_) fun s2 H2 xs ⟨d, hd, ex, eH⟩ hr' => ?_
  · refine bind_form hp.e1 ea en1 en2 hp.e3 hp.e4 ea3 en3 hdef hf (fun p hp => ?_) (by rw [kk]; exact hnd) ?_ fun h' t' kp hD => ?_
    · have : p.1 ∈ ks.map (·.1) := by rw [← kk]; exact List.mem_map.mpr ⟨p, hp, rfl⟩
      obtain ⟨q, hq, e⟩ := List.mem_map.mp this
      rw [← e]
      exact hk q hq
    · have := congrArg List.length kk
      rw [List.length_map, List.length_map] at this
      omega
    · have new : ObjOk P w (upd H s.heap.objs.size (.dK (keyed ks))) h' s.heap.objs.size (.dK (keyed ks)) :=
        ⟨by unfold keyed; rw [List.length_map]; exact hz, beq_eq_false_iff_ne.mpr (Ne.symm (Nat.ne_of_lt (StX.env0_big e0))), _, kwR_kv rk, hD⟩
      exact hq _ _ [v0, kwFirst dv vs, V.ref s.heap.objs.size] [u0, b, Value.ref s.heap.objs.size] (env0_kept e0 kp new) (Un.laid kp (Nat.le_refl _) hn) rfl (fun e s' z => z) (.cons r0 (.cons rb (.cons rfl .nil))) rfl ⟨_, hn, rfl, rfl⟩
  · subst ex eH
    obtain ⟨t, ht, q⟩ := hbody cdv A outer s2 _ _ Q E hr' (h d hd)
    exact ⟨t, ht.nox, q⟩
end
end KwX

set_option Elab.async false
set_option linter.all false
set_option maxRecDepth 100000
set_option maxHeartbeats 1000000
namespace KwX
open PySem PySem.Spec PyProof.Rows L2

/-- what is wanted of a new instance: x, its dict, the dict of the keywords -/
def MkQ (C : Addr) (sp : Sp) (E : XK) (dv : V) (vs : List V) (ks : List (Str × V)) (H : Hp) (Q : VK) : Prop :=
  ∀ x dx d, H x = none → H dx = none → H d = none → dx ≠ x → d ≠ x → d ≠ dx → sp [.ref x, kwFirst dv vs, .ref d] (upd (upd (upd H dx (.own x)) x (.ins C dx [])) d (.dK (keyed ks))) (fun v H2 => v = .non ∧ Q (.ref x) H2) E
section
variable {X : Cx} {k : Nat} {f C : Addr} {dv : V} {sp : Sp} {E : XK} {pins : List (Addr × Obj)} {σ : L2.St} {H : Hp} {s : Shared}
theorem run_mk {Q : VK} {us : List Value} {vs : List V} {ks : List (Str × V)} {kw : List (Str × Value)} (M : Mk X.K C f) (F : KwOk X.prog X.w X.K X.mg X.base k f dv sp) (hr : Room (k + 1) X.A) (I : Inv X pins σ H s)
    (r : Vals vs us) (hl : vs.length ≤ 1) (rk : KwR ks kw) (hk : ∀ p ∈ ks, p.1 ≠ "self" ∧ p.1 ≠ "constant") (hnd : (ks.map (·.1)).Nodup) (hz : ks.length ≤ sizeLine) (h : MkQ C sp E dv vs ks H Q) :
    wpAny (model X.prog X.w) X.A (call (.ref C) us kw) (EP X pins σ Q) X.xe s := by
  have nx := I.hok.fresh (Nat.le_succ s.heap.objs.size)
  have ndx := I.hok.fresh (Nat.le_refl s.heap.objs.size)
  have ne := Nat.ne_of_lt (Nat.lt_succ_self s.heap.objs.size)
  have I2 := Inv.made (C := C) I
  refine wpAny_call (make_map (f := f) I.kIn M.makes M.init (beq_iff_eq.mp M.fn) (codeAny_mono (F _ X.stack _ _ (.ref (s.heap.objs.size + 1)) _ vs us ks kw (fun v H2 => v = .non ∧ Q (.ref (s.heap.objs.size + 1)) H2) E (hr.make C us kw) (I2.env0.make C us kw) rfl r hl rk hk hnd hz fun d hd => ?_) fun r s' hq' => ?_))
  · have n1 : d ≠ s.heap.objs.size + 1 := fun z => by rw [z, upd_same] at hd; cases hd
    have n2 : d ≠ s.heap.objs.size := fun z => by rw [z, upd_ne ne, upd_same] at hd; cases hd
    rw [upd_ne n1, upd_ne n2] at hd
    exact h (s.heap.objs.size + 1) s.heap.objs.size d nx ndx hd ne n1 n2
  · cases r with
    | error e => exact False.elim hq'
    | ok fl =>
      cases fl with
      | ret u =>
        obtain ⟨v, H', I3, rv, ev, q3⟩ := I2.after hq'
        subst ev
        exact ⟨rv, ⟨V.ref (s.heap.objs.size + 1), H', I3, rfl, q3⟩⟩
      | next => exact False.elim hq'
      | brk => exact False.elim hq'
      | cont => exact False.elim hq'
end
/-- the values of a dict whose keys are texts -/
def pairsOf (kvs : List (Key × V)) : List (Str × V) := kvs.filterMap fun p => match p.1 with
  | .inr x => some (x, p.2)
  | .inl _ => none
theorem kwOf_rel : ∀ {kvs : List (Key × V)} {vs : List (Key × Value)}, KV kvs vs → KwR (pairsOf kvs) (kwOf vs)
  | _, _, .nil => .nil
  | (k, v) :: kvs, (k', u) :: vs, .cons h r => by
    obtain ⟨h1, h2⟩ := h
    simp only at h1
    subst h1
    cases k with
    | inl i =>
      show KwR (pairsOf kvs) (kwOf vs)
      exact kwOf_rel r
    | inr x =>
      show KwR ((x, v) :: pairsOf kvs) ((x, u) :: kwOf vs)
      exact .cons ⟨rfl, h2⟩ (kwOf_rel r)
theorem kv_keys {kvs : List (Key × V)} {vs : List (Key × Value)} (h : KV kvs vs) : ∀ p ∈ vs, ∃ q ∈ kvs, q.1 = p.1 := by
  induction h with
  | nil => intro p hp; cases hp
  | cons h r ih =>
    intro p hp
    rcases List.mem_cons.mp hp with rfl | hp
    · exact ⟨_, List.mem_cons_self, h.1⟩
    · obtain ⟨q, hq, e⟩ := ih p hp
      exact ⟨q, List.mem_cons_of_mem _ hq, e⟩
theorem kv_map {kvs : List (Key × V)} {vs : List (Key × Value)} (h : KV kvs vs) : kvs.map (·.1) = vs.map (·.1) := by
  induction h with
  | nil => rfl
  | cons h r ih => rw [List.map_cons, List.map_cons, ih, h.1]
/-- C(e, **t) -/
def tMkT (C : Addr) (sp : Sp) (E : XK) (dv : V) (ta tt : TE) : TE := fun σ H Q => ta σ H fun x H1 => ∀ d0, H1 d0 = none → tt σ (upd H1 d0 (.dK [])) fun y H2 => ∃ o ks, y = .ref o ∧ o ≠ d0 ∧ H2 o = some (.dK (keyed ks)) ∧ H2 d0 = some (.dK []) ∧
  (∀ p ∈ ks, p.1 ≠ "self" ∧ p.1 ≠ "constant") ∧ (ks.map (·.1)).Nodup ∧ MkQ C sp E dv [x] ks (upd H2 d0 (.dK (keyed ks))) Q
theorem pairsOf_keyed : ∀ (ks : List (Str × V)), pairsOf (keyed ks) = ks
  | [] => rfl
  | (x, v) :: ks => by
    show (x, v) :: pairsOf (keyed ks) = _
    rw [pairsOf_keyed ks]
section
variable {X : Cx} {k : Nat} {f C : Addr} {dv : V} {sp : Sp} {E : XK} {x : Str} {p pos kpos : Pos} {e e2 : Expr} {ta tt : TE}
theorem pe_mkT (M : Mk X.K C f) (F : KwOk X.prog X.w X.K X.mg X.base k f dv sp) (hr : Room (k + 1) X.A) (hg : Gl X x) (hm : X.mg x = some (.ref C)) (he : PE X e ta) (ht : PE X e2 tt) (hdb : (x == ("__debug__" : Str)) = false := by decide)
    (hst : starEach [e] X.env = [(false, eval e X.env)] := by rfl) : PE X (.Call (.Name x p) [e] [⟨none, e2, kpos⟩] pos) (tMkT C sp E dv ta tt) := by
  refine ⟨fun pins s σ H Q I h => ?_⟩
  refine wpAny_Call_Name_kw (ld_glob I hg hm ?_ hdb)
  rw [hst]
  show wpAny _ _ (callWith pos (.ref C) [] [(false, eval e X.env)] [(none, do let v ← eval e2 X.env; standAt pos; pure v)]) _ _ _
  refine callWith_one (K := X.K) M.kp (evalArgs_one ?_)
  refine Calls.spliced_cons (thn (he.run pins s σ H _ I h) fun u s1 ⟨y, H1, I1, r1, q1⟩ => Calls.spliced_nil ?_)
  have hn := I1.hok.fresh (Nat.le_refl s1.heap.objs.size)
  have hbig : sysModules < s1.heap.objs.size := StX.env0_big I1.env0
  have I2 : Inv X pins σ (upd H1 s1.heap.objs.size (.dK [])) { s1 with heap := s1.heap.push dict0 } := I1.laid (t' := s1.toks) (fun b u e => Heap.get?_push_of_some _ e) (Nat.le_refl _) (dk_empty _ hbig)
  refine wpAny_bind (thn (ht.run pins _ σ _ _ I2 (q1 s1.heap.objs.size hn)) fun v s2 ⟨z, H2, I3, r2, o, ks, ez, ne, ho, h0, hk, hnd, q2⟩ => wpAny_bind (wpAny_standAt (wpAny_pure ?_)))
  subst ez
  obtain rfl : v = Value.ref o := r2
  obtain ⟨zl, hsm, vs, rv, hD⟩ := I3.hok o _ ho
  obtain ⟨_, hsm0, vs0, rv0, hD0⟩ := I3.hok _ _ h0
  cases rv0
  have hlen : vs.length ≤ sizeLine := by have := Paired.length rv; omega
  refine ⟨o, vs, rfl, Ne.symm ne, hsm, hD0, hD, hlen, fun p hp => ?_, fun h' a b c => ?_⟩
  · obtain ⟨q, hq, e⟩ := kv_keys rv p hp
    obtain ⟨y', hy', ey⟩ := List.mem_map.mp hq
    exact ⟨y'.1, by rw [← e, ← ey]⟩
  · have I4 : Inv X pins σ (upd H2 s1.heap.objs.size (.dK (keyed ks))) { s2 with heap := h' } := by
      refine I3.write (t' := s2.toks) (x := s1.heap.objs.size) (e := s1.heap.objs.size) (o := .dK (keyed ks)) (by rw [h0]; exact True.intro) (.inl rfl) (fun b u hb e => (c.2 b hb).trans e) ?_ ⟨zl, hsm0, vs, rv, a⟩
      obtain ⟨o', _, _, e', _⟩ := a
      exact ⟨o', e'⟩
    have rk : KwR ks (kwOf vs) := by
      have := kwOf_rel rv
      rw [pairsOf_keyed] at this
      exact this
    refine ⟨I4.kIn, ?_⟩
    exact run_mk (us := [u]) (vs := [y]) M F hr I4 (.cons r1 .nil) (Nat.le_refl 1) rk hk hnd (by unfold keyed at zl; rw [List.length_map] at zl; exact zl) q2
end
end KwX

set_option Elab.async false
set_option linter.all false
set_option maxRecDepth 100000
set_option maxHeartbeats 1000000
namespace KwX
open PySem PySem.Spec PyProof.Rows L2
/-- C(e, ..) and C() where C's making takes keywords -/
def tMk1 (C : Addr) (sp : Sp) (E : XK) (dv : V) (t : TA) : TE := fun σ H Q => t σ H fun vs H1 => vs.length ≤ 1 ∧ MkQ C sp E dv vs [] H1 Q
/-- C(e, a = x, b = y) -/
def tMkK (C : Addr) (sp : Sp) (E : XK) (dv : V) (names : List Str) (t tk : TA) : TE := fun σ H Q => t σ H fun vs H1 => tk σ H1 fun zs H2 => vs.length ≤ 1 ∧ MkQ C sp E dv vs (names.zip zs) H2 Q
theorem kwR_zip {zs : List V} {ws : List Value} (r : Vals zs ws) : ∀ names : List Str, KwR (names.zip zs) (names.zip ws) := by
  induction r with
  | nil =>
    intro names
    cases names <;> exact .nil
  | cons h t ih =>
    intro names
    cases names with
    | nil => exact .nil
    | cons n ns => exact .cons ⟨rfl, h⟩ (ih ns)
theorem zip_keys_sub {zs : List V} : ∀ (names : List Str), ((names.zip zs).map (·.1)).Sublist names := by
  induction zs with
  | nil => intro names; rw [List.zip_nil_right]; exact List.nil_sublist _
  | cons z zs ih =>
    intro names
    cases names with
    | nil => exact List.nil_sublist _
    | cons n ns => exact (ih ns).cons_cons n
section
variable {X : Cx} {k : Nat} {f C : Addr} {dv : V} {sp : Sp} {E : XK} {x : Str} {p pos : Pos} {e : Expr} {es : List Expr} {kws : List Keyword} {t tk : TA} {names : List Str}
theorem pe_mk1 (M : Mk X.K C f) (F : KwOk X.prog X.w X.K X.mg X.base k f dv sp) (hr : Room (k + 1) X.A) (hg : Gl X x) (hm : X.mg x = some (.ref C)) (ha : PA X (e :: es) t) (hdb : (x == ("__debug__" : Str)) = false := by decide)
    (he : starEach (e :: es) X.env = (false, eval e X.env) :: starEach es X.env := by rfl) (hpl : (backTo pos (starEach es X.env)).any (·.1) = false := by rfl) : PE X (.Call (.Name x p) (e :: es) [] pos) (tMk1 C sp E dv t) := by
  refine ⟨fun pins s σ H Q I h => ?_⟩
  refine wpAny_Call_Name_kw (ld_glob I hg hm ?_ hdb)
  refine PySem.W.callWith_K (h₀ := X.base) I.ok.mod.kin M.kp (thn (ha.run pos pins s σ H _ I h) fun us s1 ⟨vs, H1, I1, r, hl, q⟩ => ⟨I1.kIn, ?_⟩) he hpl
  exact run_mk M F hr I1 r hl .nil (fun _ h => (by cases h)) List.nodup_nil (Nat.zero_le _) q
theorem pe_mk0 (M : Mk X.K C f) (F : KwOk X.prog X.w X.K X.mg X.base k f dv sp) (hr : Room (k + 1) X.A) (hg : Gl X x) (hm : X.mg x = some (.ref C)) (hdb : (x == ("__debug__" : Str)) = false := by decide) : PE X (.Call (.Name x p) [] [] pos) (tMk1 C sp E dv tNil) := by
  refine ⟨fun pins s σ H Q I h => ?_⟩
  refine wpAny_Call_Name_kw (ld_glob I hg hm ?_ hdb)
  obtain ⟨hl, q⟩ := h
  exact PySem.W.callWith_K0 I.kIn M.kp (run_mk (us := []) (vs := []) M F hr I .nil hl .nil (fun _ h => (by cases h)) List.nodup_nil (Nat.zero_le _) q)
theorem pe_mkK (M : Mk X.K C f) (F : KwOk X.prog X.w X.K X.mg X.base k f dv sp) (hr : Room (k + 1) X.A) (hg : Gl X x) (hm : X.mg x = some (.ref C)) (ha : PA X (e :: es) t) (hkw : PK X kws tk) (hnd : names.Nodup) (hne : ∀ n ∈ names, n ≠ "self" ∧ n ≠ "constant") (hlen : names.length ≤ sizeLine)
    (hall : (backToKw pos (keywordEach kws X.env)).all (·.1.isSome) = true := by rfl) (hks : (backToKw pos (keywordEach kws X.env)).filterMap (·.1) = names := by rfl)
    (hdb : (x == ("__debug__" : Str)) = false := by decide) (he : starEach (e :: es) X.env = (false, eval e X.env) :: starEach es X.env := by rfl)
    (hpl : ((backTo pos (starEach (e :: es) X.env)).any (·.1) || (backToKw pos (keywordEach kws X.env)).any (·.1.isNone)) = false := by rfl) : PE X (.Call (.Name x p) (e :: es) kws pos) (tMkK C sp E dv names t tk) := by
  refine ⟨fun pins s σ H Q I h => ?_⟩
  refine wpAny_Call_Name_kw (ld_glob I hg hm ?_ hdb)
  refine PySem.W.callWith_KW (h₀ := X.base) I.ok.mod.kin M.kp hall (thn (ha.run pos pins s σ H _ I h) fun us s1 ⟨vs, H1, I1, r, q⟩ => ?_) hpl he
  refine thn (hkw.run pos pins s1 σ H1 _ I1 q) fun ws s2 ⟨zs, H2, I2, rz, hl, q2⟩ => ⟨I2.kIn, ?_⟩
  rw [hks]
  have sub := zip_keys_sub (zs := zs) names
  refine run_mk M F hr I2 r hl (kwR_zip rz names) (fun q hq => hne _ (sub.subset (List.mem_map.mpr ⟨q, hq, rfl⟩))) (hnd.sublist sub) ?_ q2
  rw [List.length_zip]
  omega
end
end KwX

set_option Elab.async false
set_option linter.all false
set_option maxRecDepth 100000
set_option maxHeartbeats 1000000
namespace OpX
open PySem PySem.Spec PyProof.Rows L2

theorem back {Q : Value → Shared → Prop} {v : V} {u : Value} {s : Shared} (r : RelV v u) (q : Q u s) : PySem.W.CmpBack Q u s := by
  cases v with
  | non => cases r; exact q
  | bl _ => cases r; exact q
  | int _ => obtain ⟨t, rfl⟩ := r; exact q
  | str _ => obtain ⟨t, rfl⟩ := r; exact q
  | byt _ => obtain ⟨t, rfl⟩ := r; exact q
  | flt _ => obtain ⟨t, rfl⟩ := r; exact q
  | ref _ => cases r; exact q
  | ty _ => cases r; exact q
/-- a class with an operator of its own (its def at f), its right one at g or none -/
structure OpC (K : PySem.W.Frag) (C : Addr) (op : Operator) (f : Addr) : Prop where
  first : PySem.W.selfFirst K C = true
  at_ : PySem.W.findIn K (.ref C) (PySem.dunder op.info.2) = some (some (.ref f))
  fn : PySem.W.isFn K (.ref f) = true
  rr : ∃ rc, PySem.W.findIn K (.ref C) (PySem.dunderR op.info.2) = some rc ∧ (rc = none ∨ ∃ g : Addr, rc = some (.ref g))
  i1 : ∃ fo, PySem.W.findIn K (.type "int") (PySem.dunder op.info.2) = some fo
  i2 : ∃ ro, PySem.W.findIn K (.type "int") (PySem.dunderR op.info.2) = some ro
  sub : PySem.W.subIn K (.type "int") (.ref C) = some false
/-- x op y, x an instance of C, y another one or an int -/
def rOwn (C : Addr) (sp : Sp) (E : XK) : R2 := fun x y H Q => ∃ a dx fs, x = .ref a ∧ H a = some (.ins C dx fs) ∧ ((∃ i, y = .int i) ∨ ∃ b dy gs, y = .ref b ∧ H b = some (.ins C dy gs)) ∧ sp [x, y] H Q E
section
variable {X : Cx} {CX : CXT} {k : Nat} {f g C : Addr} {fd : FuncData} {ps : List Str} {sp : Sp} {E : XK}
theorem op_own {op : Operator} (O : OpC X.K C op f) (F : FnOk X.prog X.w X.K X.mg X.base CX k f fd ps sp) (hr : Room k X.A) (hb : Binds X.K fd ps []) (hx : Passes CX X E) : OpR X (binaryOp op) (rOwn C sp E) := by
  intro pins s σ H x y u v Q I rx ry h
  obtain ⟨a, dx, fs, rfl, ha, hy, hsp⟩ := h
  obtain rfl : u = Value.ref a := rx
  obtain ⟨mA, J, _⟩ := ins_get I.hok ha
  obtain ⟨od, J, _⟩ := J.look
  obtain ⟨m, hF⟩ := I.fr
  have hcall : wpAny (model X.prog X.w) X.A (call (.ref f) [.ref a, v]) (PySem.W.CmpBack (EP X pins σ Q)) X.xe s := by
    refine thn (run_fn (Q := Q) (us := [.ref a, v]) (vs := [.ref a, y]) F hr hb .nil hx I (.cons rfl (.cons ry .nil)) (by rw [List.append_nil]; exact hsp)) fun w' s' hh => ?_
    obtain ⟨z, H', I', rz, q⟩ := hh
    exact back rz ⟨z, H', I', rz, q⟩
  rcases hy with ⟨i, rfl⟩ | ⟨b, dy, gs, rfl, hb'⟩
  · obtain ⟨t, rfl⟩ := (show ∃ t, v = Value.int i t from ry)
    obtain ⟨rc, h1, h2⟩ := O.rr
    obtain ⟨fo, h3⟩ := O.i1
    obtain ⟨ro, h4⟩ := O.i2
    exact PySem.W.ksp_binT (T := "int") hF I.ok.mod.kin J rfl O.first O.at_ O.fn h1 h2 h3 h4 O.sub hcall
  · obtain rfl : v = Value.ref b := ry
    obtain ⟨mB, J', _⟩ := ins_get I.hok hb'
    obtain ⟨od', J', _⟩ := J'.look
    exact PySem.W.binop_K hF I.ok.mod.kin J J'.type O.first O.at_ O.fn hcall
/-- -x -/
theorem un_own (hs : PySem.W.findIn X.K (.ref C) "__neg__" = some (some (.ref f))) (hf : PySem.W.isFn X.K (.ref f) = true) (F : FnOk X.prog X.w X.K X.mg X.base CX k f fd ps sp) (hr : Room k X.A) (hb : Binds X.K fd ps []) (hx : Passes CX X E) :
    UnR X (unaryOp .USub) (fun x H Q => ∃ a dx fs, x = .ref a ∧ H a = some (.ins C dx fs) ∧ sp [x] H Q E) := by
  intro pins s σ H x u Q I rx h
  obtain ⟨a, dx, fs, rfl, ha, hsp⟩ := h
  obtain rfl : u = Value.ref a := rx
  obtain ⟨mA, J, _⟩ := ins_get I.hok ha
  obtain ⟨od, J, _⟩ := J.look
  obtain ⟨m, hF⟩ := I.fr
  exact PySem.W.ksp_neg hF I.ok.mod.kin J hs hf (run_fn (us := [.ref a]) (vs := [.ref a]) F hr hb .nil hx I (.cons rfl .nil) (by rw [List.append_nil]; exact hsp))
end

/-! an int on the left -/
/-- int's own operator at an instance says NotImplemented -/
structure IntL (op : Operator) (id : String) : Prop where
  look : Slot "int" (PySem.dunder op.info.2) id
  gives : ∀ {prog : Program} {w : World} {A : Around} {E : Value → Shared → Prop} {s : Shared} {i : Int} {t : Tok} {b : Addr} {ob : Obj} {Q : Value → Shared → Prop}, s.heap.get? b = some ob → ob.data = .plain → Q .notImplemented s →
    wpAny (model prog w) A (call (.builtin id) [.int i t, .ref b]) Q E s
  fills : fillsNumberSlot (.type "int") op.info.2 = pure true
theorem asInt_inst {M : Model} {A : Around} {E : Value → Shared → Prop} {s : Shared} {b : Addr} {ob : Obj} {Q : Option Int → Shared → Prop} (h1 : s.heap.get? b = some ob) (h2 : ob.data = .plain) (hq : Q none s) : wpAny M A (asInt? (.ref b)) Q E s := by
  unfold asInt?
  refine wpAny_bind (wpAny_load h1 ?_)
  rw [h2]
  exact wpAny_pure hq
theorem intAdd : IntL .Add "int.__add__" where
  look := F.slot_int_add
  gives := fun {prog w A E s i t b ob Q} h1 h2 hq => by
    refine GQ.call_here F.slot_int_add rfl F.entry_int_add (F.args_int_add_2 _ _) ?_
    unfold Builtin.«int.__add__» Builtin.Int.intBinary
    refine wpAny_bind (wpAny_of_eq (a := (Value.int i t, [Value.ref b])) (by first | rfl | kernel_rfl) ?_)
    refine wpAny_bind (wpAny_of_eq (a := i) (by first | rfl | kernel_rfl) ?_)
    refine wpAny_bind (asInt_inst h1 h2 ?_)
    exact wpAny_bind (wpAny_rule (wpAny_pure hq))
  fills := F.fills_int_add
theorem intSub : IntL .Sub "int.__sub__" where
  look := F.slot_int_sub
  gives := fun {prog w A E s i t b ob Q} h1 h2 hq => by
    refine GQ.call_here F.slot_int_sub rfl F.entry_int_sub (F.args_int_sub_2 _ _) ?_
    unfold Builtin.«int.__sub__» Builtin.Int.intBinary
    refine wpAny_bind (wpAny_of_eq (a := (Value.int i t, [Value.ref b])) (by first | rfl | kernel_rfl) ?_)
    refine wpAny_bind (wpAny_of_eq (a := i) (by first | rfl | kernel_rfl) ?_)
    refine wpAny_bind (asInt_inst h1 h2 ?_)
    exact wpAny_bind (wpAny_rule (wpAny_pure hq))
  fills := F.fills_int_sub
theorem intMul : IntL .Mult "int.__mul__" where
  look := F.slot_int_mul
  gives := fun {prog w A E s i t b ob Q} h1 h2 hq => by
    refine GQ.call_here F.slot_int_mul rfl F.entry_int_mul (F.args_int_mul_2 _ _) ?_
    unfold Builtin.«int.__mul__» Builtin.Int.intBinary
    refine wpAny_bind (wpAny_of_eq (a := (Value.int i t, [Value.ref b])) (by first | rfl | kernel_rfl) ?_)
    refine wpAny_bind (wpAny_of_eq (a := i) (by first | rfl | kernel_rfl) ?_)
    refine wpAny_bind (asInt_inst h1 h2 ?_)
    exact wpAny_bind (wpAny_rule (wpAny_pure hq))
  fills := F.fills_int_mul
/-- a class whose right operator stands at g (and perhaps a left one) -/
structure OpR' (K : PySem.W.Frag) (C : Addr) (op : Operator) (g : Addr) : Prop where
  first : PySem.W.selfFirst K C = true
  at_ : ∃ f : Addr, PySem.W.findIn K (.ref C) (PySem.dunder op.info.2) = some (some (.ref f))
  rr : PySem.W.findIn K (.ref C) (PySem.dunderR op.info.2) = some (some (.ref g))
  fn : PySem.W.isFn K (.ref g) = true
  sub : PySem.W.subIn K (.ref C) (.type "int") = some false
def rRev (C : Addr) (sp : Sp) (E : XK) : R2 := fun x y H Q => ∃ i a dx fs, x = .int i ∧ y = .ref a ∧ H a = some (.ins C dx fs) ∧ sp [y, x] H Q E
section
variable {X : Cx} {CX : CXT} {k : Nat} {g C : Addr} {fd : FuncData} {ps : List Str} {sp : Sp} {E : XK}
open PySem.W in
theorem op_rev {op : Operator} {id : String} (L : IntL op id) (O : OpR' X.K C op g) (F : FnOk X.prog X.w X.K X.mg X.base CX k g fd ps sp) (hr : Room k X.A) (hb : Binds X.K fd ps []) (hx : Passes CX X E) : OpR X (binaryOp op) (rRev C sp E) := by
  intro pins s σ H x y v u Q I rx ry h
  obtain ⟨i, a, dx, fs, rfl, rfl, ha, hsp⟩ := h
  obtain rfl : u = Value.ref a := ry
  obtain ⟨t, rfl⟩ := (show ∃ t, v = Value.int i t from rx)
  obtain ⟨mA, J, _⟩ := ins_get I.hok ha
  have hat := J.obj
  obtain ⟨od, J, _⟩ := J.look
  obtain ⟨f, hs⟩ := O.at_
  obtain ⟨cd, rest, hcd, hm⟩ := ksp_first O.first
  have hcall : wpAny (model X.prog X.w) X.A (call (.ref g) [.ref a, .int i t]) (PySem.W.CmpBack (EP X pins σ Q)) X.xe s := by
    refine thn (run_fn (Q := Q) (us := [.ref a, .int i t]) (vs := [.ref a, .int i]) F hr hb .nil hx I (.cons rfl (.cons rx .nil)) (by rw [List.append_nil]; exact hsp)) fun w' s' hh => ?_
    obtain ⟨z, H', I', rz, q⟩ := hh
    exact back rz ⟨z, H', I', rz, q⟩
  have KX := I.kIn
  have hrr := O.rr
  have one := ksp_try KX J O.rr O.fn hcall
  have L1 : Looks (model X.prog X.w) s.heap (typeOf (.ref a)) (.ref C) := J.type
  have L3 : Looks (model X.prog X.w) s.heap (fillsNumberSlot (.ref C) op.info.2) true := fills_K KX hcd hm hs
  have L5 : Looks (model X.prog X.w) s.heap (isSubtype (.ref C) (.type "int")) false := looks_subIn KX O.sub
  have hne : (Value.type "int" == Value.ref C) = false := Bool.eq_false_iff.mpr fun q => by cases beq_iff_eq.mp q
  have hfill := L.fills
  have hslot := L.look
  have first : ∀ {Q' : Option Value → Shared → Prop}, Q' none s → wpAny (model X.prog X.w) X.A (tryMethod (.int i t) (PySem.dunder op.info.2) (.ref a)) Q' X.xe s := fun {Q'} q => by
    unfold tryMethod
    refine wpAny_bind (wpAny_callSpecial?_slot (T := "int") rfl hslot ?_)
    exact L.gives hat rfl (wpAny_pure q)
  rcases hi : op.info with ⟨sym, nm'⟩
  rw [hi] at hs hfill hslot first L3 one
  dsimp only at hs hfill hslot first L3 one
  have L2 : Looks (model X.prog X.w) s.heap (fillsNumberSlot (.type "int") nm') true := Looks.of_pure hfill
  have L7 : Looks (model X.prog X.w) s.heap (numberSlotInPython (.type "int") nm') false := Looks.of_pure rfl
  obtain ⟨hh, g', d, tt, os⟩ := s
  have L0 : Looks (model X.prog X.w) hh (typeOf (.int i t)) (.type "int") := Looks.of_pure rfl
  simp only [binaryOp, hi]
  refine wpAny_holding (wpAny_bind ?_)
  unfold binaryOp1
  refine wpAny_bind (L0.at (wpAny_bind (L1.at (wpAny_bind (L2.at ?_)))))
  simp only [hne, Bool.false_eq_true, if_false]
  ksp_lk
  refine first ?_
  ksp_lk
  refine wpAny_mono one (fun r s' hr' => ?_) fun _ _ e => e
  obtain ⟨v, rfl, hq⟩ := hr'
  ksp_lk
  exact hq
end
end OpX

set_option Elab.async false
set_option linter.all false
set_option maxRecDepth 100000
set_option maxHeartbeats 1000000
namespace OpX
open PySem PySem.Spec PyProof.Rows L2
/-- no class of C's has the operator in place -/
structure NoI (K : PySem.W.Frag) (C : Addr) (op : Operator) : Prop where
  mro : ∃ cd, PySem.W.clsIn K C = some cd ∧ cd.mro = [.ref C, .type "object"]
  own : PySem.W.findIn K (.ref C) (PySem.dunderI op.info.2) = some none
  obj : PySem.W.findIn K (.type "object") (PySem.dunderI op.info.2) = some none
open PySem.W in
theorem no_fills {K : PySem.W.Frag} {C : Addr} {op : Operator} {M : Model} {h : Heap} {add : Bool} (N : NoI K C op) (KX : K.In h) : Looks M h (fillsInplaceSlot (.ref C) op.info.2 add) false := by
  intro A Q E s k q
  obtain ⟨cd, hcd, hm⟩ := N.mro
  have Lm : Looks M h (mroOf (.ref C)) cd.mro := (looks_clsIn KX hcd).andThen (f := fun cd => pure cd.mro) .now
  have Lm' := Lm.keeps k
  obtain ⟨hh, g, d, tt, os⟩ := s
  have X' : K.In hh := KX.keeps k
  have La : Looks M hh (typeLookup (.ref C) (dunderI op.info.2)) none := looks_findIn X' N.own
  have Lb : Looks M hh (typeLookup (.type "object") (dunderI op.info.2)) none := looks_findIn X' N.obj
  unfold fillsInplaceSlot
  refine wpAny_bind (Lm'.at ?_)
  rw [hm, List.anyM_cons, List.anyM_cons]
  refine wpAny_bind ?_
  repeat lk
  exact q
open PySem.W in
theorem one_own {K : PySem.W.Frag} {h0 : Heap} {Lx m} {prog : Program} {w : World} {A : Around} {E : Value → Shared → Prop} {s : Shared} {x C f : Addr} {ox od : Obj} {op : Operator} {b : Value} {Q : Value → Shared → Prop} (F : Fr h0 Lx s.heap m) (X₀ : K.In h0) (I : InstAt s.heap x ox C od) (O : OpC K C op f)
    (hb : typeOf b = pure (.type "int") ∨ Looks (model prog w) s.heap (typeOf b) (.ref C)) (h : wpAny (model prog w) A (call (.ref f) [.ref x, b]) (PySem.W.CmpBack Q) E s) :
    wpAny (model prog w) A (binaryOp1 op.info.2 (.ref x) b) (fun r s' => ∃ v, r = some v ∧ Q v s') E s := by
  have X := X₀.keeps F.keep
  obtain ⟨cd, rest, hcd, hm⟩ := ksp_first O.first
  have hs := O.at_
  obtain ⟨rc, hr, hp⟩ := O.rr
  obtain ⟨fo, h1⟩ := O.i1
  obtain ⟨ro, h2⟩ := O.i2
  have one := ksp_try X I hs O.fn h
  have fills := fills_K X hcd hm hs (M := model prog w)
  rcases hb with hb | hb
  · obtain ⟨hh, g, d, tt, os⟩ := s
    have l1 : Looks (model prog w) hh (typeOf (.ref x)) (.ref C) := I.type
    have l2 : Looks (model prog w) hh (typeOf b) (.type "int") := Looks.of_pure hb
    have l3 : Looks (model prog w) hh (fillsNumberSlot (.ref C) op.info.2) true := fills
    have l4 : Looks (model prog w) hh (fillsNumberSlot (.type "int") op.info.2) ((fo.isSome && !isSeqSlot fo) || (ro.isSome && !isSeqSlot ro)) := ksp_fillsT X h1 h2
    have l5 : Looks (model prog w) hh (isSubtype (.type "int") (.ref C)) false := looks_subIn X O.sub
    have l6 : Looks (model prog w) hh (numberSlotInPython (.ref C) op.info.2) true := ksp_inPy X hs hr hp
    have l7 : Looks (model prog w) hh (numberSlotInPython (.type "int") op.info.2) false := Looks.of_pure rfl
    have l8 : Looks (model prog w) hh (typeLookup (.type "int") (dunderR op.info.2)) ro := looks_findIn X h2
    generalize ((fo.isSome && !isSeqSlot fo) || (ro.isSome && !isSeqSlot ro)) = right at l4
    have hne : (Value.ref C == Value.type "int") = false := Bool.eq_false_iff.mpr fun q => by cases beq_iff_eq.mp q
    unfold binaryOp1
    refine wpAny_bind (l1.at (wpAny_bind (l2.at (wpAny_bind (l3.at ?_)))))
    simp only [hne, Bool.false_eq_true, if_false]
    cases right with
    | false =>
      ksp_lk
      refine wpAny_mono one (fun r s' hr' => ?_) fun _ _ e => e
      obtain ⟨v, rfl, hq⟩ := hr'
      ksp_lk
      exact ⟨v, rfl, hq⟩
    | true =>
      ksp_lk
      refine wpAny_mono one (fun r s' hr' => ?_) fun _ _ e => e
      obtain ⟨v, rfl, hq⟩ := hr'
      ksp_lk
      exact ⟨v, rfl, hq⟩
  · obtain ⟨hh, g, d, tt, os⟩ := s
    have l1 : Looks (model prog w) hh (typeOf (.ref x)) (.ref C) := I.type
    have l2 : Looks (model prog w) hh (typeOf b) (.ref C) := hb
    have l3 : Looks (model prog w) hh (fillsNumberSlot (.ref C) op.info.2) true := fills
    unfold binaryOp1
    refine wpAny_bind (l1.at (wpAny_bind (l2.at (wpAny_bind (l3.at ?_)))))
    simp only [beq_self_eq_true, if_true]
    ksp_lk
    refine wpAny_mono one (fun r s' hr' => ?_) fun _ _ e => e
    obtain ⟨v, rfl, hq⟩ := hr'
    ksp_lk
    exact ⟨v, rfl, hq⟩
section
variable {X : Cx} {CX : CXT} {k : Nat} {f C : Addr} {fd : FuncData} {ps : List Str} {sp : Sp} {E : XK}
/-- x op= y, x an instance without an operator in place -/
theorem op_iown {op : Operator} (O : OpC X.K C op f) (N : NoI X.K C op) (F : FnOk X.prog X.w X.K X.mg X.base CX k f fd ps sp) (hr : Room k X.A) (hb : Binds X.K fd ps []) (hx : Passes CX X E) : OpR X (inplaceOp op) (rOwn C sp E) := by
  intro pins s σ H x y u v Q I rx ry h
  obtain ⟨a, dx, fs, rfl, ha, hy, hsp⟩ := h
  obtain rfl : u = Value.ref a := rx
  obtain ⟨mA, J, _⟩ := ins_get I.hok ha
  obtain ⟨od, J, _⟩ := J.look
  obtain ⟨m, hF⟩ := I.fr
  have hcall : wpAny (model X.prog X.w) X.A (call (.ref f) [.ref a, v]) (PySem.W.CmpBack (EP X pins σ Q)) X.xe s := by
    refine thn (run_fn (Q := Q) (us := [.ref a, v]) (vs := [.ref a, y]) F hr hb .nil hx I (.cons rfl (.cons ry .nil)) (by rw [List.append_nil]; exact hsp)) fun w' s' hh => ?_
    obtain ⟨z, H', I', rz, q⟩ := hh
    exact back rz ⟨z, H', I', rz, q⟩
  have hty : typeOf v = pure (.type "int") ∨ PySem.W.Looks (model X.prog X.w) s.heap (typeOf v) (.ref C) := by
    rcases hy with ⟨i, rfl⟩ | ⟨b, dy, gs, rfl, hb'⟩
    · obtain ⟨t, rfl⟩ := (show ∃ t, v = Value.int i t from ry)
      exact .inl rfl
    · obtain rfl : v = Value.ref b := ry
      obtain ⟨mB, J', _⟩ := ins_get I.hok hb'
      obtain ⟨od', J', _⟩ := J'.look
      exact .inr J'.type
  have one := one_own hF I.ok.mod.kin J O hty hcall
  have l1 : PySem.W.Looks (model X.prog X.w) s.heap (typeOf (.ref a)) (.ref C) := J.type
  have l2 : PySem.W.Looks (model X.prog X.w) s.heap (fillsInplaceSlot (.ref C) op.info.2 (op == .Add)) false := no_fills N I.kIn
  unfold inplaceOp
  refine wpAny_holding ?_
  obtain ⟨hh, g, d, tt, os⟩ := s
  refine wpAny_bind (l1.at (wpAny_bind (l2.at ?_)))
  simp only [Bool.false_eq_true, if_false]
  refine wpAny_bind (wpAny_mono one (fun r s' hr' => ?_) fun _ _ e => e)
  obtain ⟨v, rfl, hq⟩ := hr'
  exact wpAny_pure hq
end
end OpX

set_option Elab.async false
set_option linter.all false
set_option maxRecDepth 100000
set_option maxHeartbeats 1000000
namespace Ow
open PySem PySem.Spec PyProof.Rows L2

/-! ### a def of the module, with its promise -/
structure Cal (P : Program) (w : World) (K : PySem.W.Frag) (mg : Str → Option Value) (base : Heap) (x : Str) (k : Nat) (sp : Sp) : Prop where
  ex : ∃ (f : Addr) (fd : FuncData) (ps : List Str), mg x = some (.ref f) ∧ FnOk P w K mg base CX0 k f fd ps sp ∧ Binds K fd ps [] ∧ PySem.W.keepIn K (.ref f) = true
def tCal (sp : Sp) (t : TA) : TE := fun σ H Q => t σ H fun vs H1 => sp vs H1 Q E0
section
variable {X : Cx} {k : Nat} {sp : Sp} {x m : Str} {e o : Expr} {es : List Expr} {t : TA} {te : TE} {p pos apos : Pos} {C : Addr}
theorem pe_cal (c : Cal X.prog X.w X.K X.mg X.base x k sp) (hr : Room k X.A) (ha : PA X (e :: es) t) (hg : Gl X x := by rfl) (hdb : (x == ("__debug__" : Str)) = false := by decide)
    (he : starEach (e :: es) X.env = (false, eval e X.env) :: starEach es X.env := by rfl) (hpl : (backTo pos (starEach es X.env)).any (·.1) = false := by rfl) :
    PE X (.Call (.Name x p) (e :: es) [] pos) (tCal sp t) := by
  refine ⟨fun pins s σ H Q I h => ?_⟩
  obtain ⟨f, fd, ps, hm, F, hb, hk⟩ := c.ex
  refine (pe_call F hr hg hm hk hb .nil pass0 ha hdb he hpl).run pins s σ H Q I ?_
  show t σ H fun vs H1 => sp (vs ++ []) H1 Q E0
  have e0 : (fun vs H1 => sp (vs ++ []) H1 Q E0) = fun vs H1 => sp vs H1 Q E0 := by
    funext vs H1
    rw [List.append_nil]
  rw [e0]
  exact h
/-- a method of the class at C -/
structure CalM (P : Program) (w : World) (K : PySem.W.Frag) (mg : Str → Option Value) (base : Heap) (C : Addr) (m : Str) (k : Nat) (sp : Sp) : Prop where
  cl : Cls K C
  ex : ∃ (f : Addr) (fd : FuncData) (ps : List Str), Meth K C m f ∧ FnOk P w K mg base CX0 k f fd ps sp ∧ Binds K fd ps []
def tCalM (C : Addr) (m : Str) (sp : Sp) (ta : TE) (t : TA) : TE := fun σ H Q => ta σ H fun x H1 => ∃ a dx fs, x = .ref a ∧ H1 a = some (.ins C dx fs) ∧ fs.lookup m = none ∧ t σ H1 fun vs H2 => sp (x :: vs) H2 Q E0
theorem pe_calM {pl : Sem Bool} (c : CalM X.prog X.w X.K X.mg X.base C m k sp) (hr : Room k X.A) (ho : PE X o te) (ha : PA X (e :: es) t)
    (ht : eval (.Call (.Attribute o m apos) (e :: es) [] pos) X.env = (do
      let ov ← eval o X.env
      standAt apos.atName
      let (f, first) ← holding [ov] (getMethod ov m pl)
      callWith pos f first (backTo pos (starEach (e :: es) X.env)) (backToKw pos (keywordEach [] X.env))) := by rfl)
    (hst : starEach (e :: es) X.env = (false, eval e X.env) :: starEach es X.env := by rfl) (hpl : (backTo pos (starEach es X.env)).any (·.1) = false := by rfl) :
    PE X (.Call (.Attribute o m apos) (e :: es) [] pos) (tCalM C m sp te t) := by
  refine ⟨fun pins s σ H Q I h => ?_⟩
  obtain ⟨f, fd, ps, hm, F, hb⟩ := c.ex
  refine (pe_meth ho c.cl hm F hr hb .nil pass0 ha hst hpl ht).run pins s σ H Q I ?_
  show te σ H fun x H1 => ∃ a dx fs, x = .ref a ∧ H1 a = some (.ins C dx fs) ∧ fs.lookup m = none ∧ t σ H1 fun vs H2 => sp (x :: (vs ++ [])) H2 Q E0
  have e0 : (fun x H1 => ∃ a dx fs, x = V.ref a ∧ H1 a = some (.ins C dx fs) ∧ fs.lookup m = none ∧ t σ H1 fun vs H2 => sp (x :: (vs ++ [])) H2 Q E0) =
      fun x H1 => ∃ a dx fs, x = V.ref a ∧ H1 a = some (.ins C dx fs) ∧ fs.lookup m = none ∧ t σ H1 fun vs H2 => sp (x :: vs) H2 Q E0 := by
    funext x H1
    simp only [List.append_nil]
  rw [e0]
  exact h
theorem pe_calM0 {pl : Sem Bool} (c : CalM X.prog X.w X.K X.mg X.base C m k sp) (hr : Room k X.A) (ho : PE X o te)
    (ht : eval (.Call (.Attribute o m apos) [] [] pos) X.env = (do
      let ov ← eval o X.env
      standAt apos.atName
      let (f, first) ← holding [ov] (getMethod ov m pl)
      callWith pos f first (backTo pos (starEach [] X.env)) (backToKw pos (keywordEach [] X.env))) := by rfl) :
    PE X (.Call (.Attribute o m apos) [] [] pos) (tCalM C m sp te tNil) := by
  refine ⟨fun pins s σ H Q I h => ?_⟩
  obtain ⟨f, fd, ps, hm, F, hb⟩ := c.ex
  exact (pe_meth0 ho c.cl hm F hr hb .nil pass0 ht).run pins s σ H Q I h
end

/-! ### the heap but for one object -/
def Stay (b : Addr) (H H' : Hp) : Prop := ∀ a o, a ≠ b → H a = some o → H' a = some o
theorem Stay.refl (b : Addr) (H : Hp) : Stay b H H := fun _ _ _ h => h
theorem Stay.trans {b : Addr} {H H1 H2 : Hp} (x : Stay b H H1) (y : Stay b H1 H2) : Stay b H H2 := fun a o n h => y a o n (x a o n h)
theorem Stay.of {b : Addr} {H H' : Hp} (s : Same H H') : Stay b H H' := fun a o _ h => s a o h
theorem Stay.upd {b : Addr} {H H' : Hp} {o : HO} (s : Stay b H H') : Stay b H (upd H' b o) := fun a u n h => by rw [upd_ne n]; exact s a u n h
theorem Stay.new {b p : Addr} {H H' : Hp} {o : HO} (s : Stay b H H') (h : H' p = none) : Stay b H (L2.upd H' p o) := fun a u n e => by rw [upd_ne (ne_of_none (s a u n e) h)]; exact s a u n e
/-- the bag of draws: n or fewer were mixed so far -/
def BagAt (H : Hp) (b : Addr) (n : Nat) : Prop := ∃ d m k : Int, H b = some (.lst [.int d, .int m, .int k]) ∧ 0 ≤ m ∧ m < 11529215046069000000 ∧ 0 ≤ k ∧ k ≤ n
theorem BagAt.mono {H : Hp} {b : Addr} {n n' : Nat} (h : BagAt H b n) (l : n ≤ n') : BagAt H b n' := by
  obtain ⟨d, m, k, h1, h2, h3, h4, h5⟩ := h
  exact ⟨d, m, k, h1, h2, h3, h4, by omega⟩
theorem BagAt.same {H H' : Hp} {b : Addr} {n : Nat} (h : BagAt H b n) (s : Same H H') : BagAt H' b n := by
  obtain ⟨d, m, k, h1, h2⟩ := h
  exact ⟨d, m, k, s _ _ h1, h2⟩
/-- _law_bag: a new bag -/
def spBag (K : PySem.W.Frag) : Sp := fun vs H Q _ => ∃ (a : Addr) (ns : List Int) (j : Nat), vs = [.ref a, .int (j : Int)] ∧ SqL K H a (ns.map V.int) ∧ ns.length ≤ 63 ∧ j ≤ 63 ∧ ∀ b H', H b = none → BagAt H' b 0 → Same H H' → Q (.ref b) H'
/-- _law_take -/
def spTake : Sp := fun vs H Q _ => ∃ (b : Addr) (n : Nat) (many : Int), vs = [.ref b, .int many] ∧ BagAt H b n ∧ n < 1000000000 ∧ 0 < many ∧ many.natAbs < 2 ^ 100 ∧ ∀ r H', 0 ≤ r → r < many → BagAt H' b (n + 1) → Stay b H H' → Q (.int r) H'
theorem ix0 {x y z : V} : atI [x, y, z] 0 = some x := rfl
theorem ix1 {x y z : V} : atI [x, y, z] 1 = some y := rfl
theorem ix2 {x y z : V} : atI [x, y, z] 2 = some z := rfl
end Ow

set_option Elab.async false
set_option linter.all false
set_option maxRecDepth 100000
set_option maxHeartbeats 1000000
/-! plain mathematics: symbols, sums by symbols, sorted lists of pairs -/
namespace Ow
open PySem PySem.Spec PyProof.Rows L2

abbrev Ps := List (Str × Int)
def co : Ps → Str → Int
  | [], _ => 0
  | (x, v) :: r, s => (if x = s then v else 0) + co r s
theorem co_append : ∀ (a b : Ps) (s : Str), co (a ++ b) s = co a s + co b s
  | [], b, s => by show co b s = 0 + co b s; omega
  | (x, v) :: r, b, s => by
    show (if x = s then v else 0) + co (r ++ b) s = (if x = s then v else 0) + co r s + co b s
    rw [co_append r b s]
    omega
theorem co_out : ∀ {a : Ps} {s : Str}, s ∉ a.map (·.1) → co a s = 0
  | [], _, _ => rfl
  | (x, v) :: r, s, h => by
    rw [List.map_cons, List.mem_cons, not_or] at h
    show (if x = s then v else 0) + co r s = 0
    rw [if_neg (Ne.symm h.1), co_out h.2]
    rfl
theorem co_in : ∀ {a : Ps} {q : Str × Int}, (a.map (·.1)).Nodup → q ∈ a → co a q.1 = q.2
  | (x, v) :: r, q, hn, hq => by
    rw [List.map_cons, List.nodup_cons] at hn
    show (if x = q.1 then v else 0) + co r q.1 = q.2
    rcases List.mem_cons.mp hq with rfl | hq
    · rw [if_pos rfl, co_out hn.1]
      show v + 0 = v
      omega
    · have : x ≠ q.1 := fun e => hn.1 (e ▸ List.mem_map.mpr ⟨q, hq, rfl⟩)
      rw [if_neg this, co_in hn.2 hq]
      omega
theorem co_perm {a b : Ps} (h : a.Perm b) (s : Str) : co a s = co b s := by
  induction h with
  | nil => rfl
  | cons x _ ih =>
    obtain ⟨y, v⟩ := x
    show (if y = s then v else 0) + co _ s = (if y = s then v else 0) + co _ s
    rw [ih]
  | swap x y l =>
    obtain ⟨x, v⟩ := x
    obtain ⟨y, u⟩ := y
    show (if y = s then u else 0) + ((if x = s then v else 0) + co l s) = (if x = s then v else 0) + ((if y = s then u else 0) + co l s)
    omega
  | trans _ _ i1 i2 => exact i1.trans i2
/-- m with the value of s set -/
def putS : Ps → Str → Int → Ps
  | [], s, v => [(s, v)]
  | (x, u) :: r, s, v => if x = s then (x, v) :: r else (x, u) :: putS r s v
theorem putS_keys : ∀ (m : Ps) (s : Str) (v : Int), (putS m s v).map (·.1) = m.map (·.1) ∨ (s ∉ m.map (·.1) ∧ (putS m s v).map (·.1) = m.map (·.1) ++ [s])
  | [], s, v => .inr ⟨by simp, rfl⟩
  | (x, u) :: r, s, v => by
    unfold putS
    by_cases e : x = s
    · rw [if_pos e]
      exact .inl rfl
    · rw [if_neg e]
      rcases putS_keys r s v with h | ⟨h1, h2⟩
      · exact .inl (by rw [List.map_cons, List.map_cons, h])
      · refine .inr ⟨?_, by rw [List.map_cons, List.map_cons, h2]; rfl⟩
        rw [List.map_cons, List.mem_cons, not_or]
        exact ⟨Ne.symm e, h1⟩
theorem putS_nodup {m : Ps} (s : Str) (v : Int) (h : (m.map (·.1)).Nodup) : ((putS m s v).map (·.1)).Nodup := by
  rcases putS_keys m s v with e | ⟨e1, e2⟩
  · rw [e]; exact h
  · rw [e2, List.nodup_append]
    refine ⟨h, by simp, fun a ha b hb e => ?_⟩
    rw [List.mem_singleton.mp hb] at e
    exact e1 (e ▸ ha)
theorem putS_len (m : Ps) (s : Str) (v : Int) : (putS m s v).length ≤ m.length + 1 := by
  rcases putS_keys m s v with e | ⟨_, e⟩
  · have := congrArg List.length e
    rw [List.length_map, List.length_map] at this
    omega
  · have := congrArg List.length e
    rw [List.length_map, List.length_append, List.length_map] at this
    simp only [List.length_cons, List.length_nil] at this
    omega
theorem putS_mem {m : Ps} {s : Str} {v : Int} {P : Str → Prop} (h : ∀ q ∈ m, P q.1) (hs : P s) : ∀ q ∈ putS m s v, P q.1 := fun q hq => by
  have hk : q.1 ∈ (putS m s v).map (·.1) := List.mem_map.mpr ⟨q, hq, rfl⟩
  have back : ∀ k ∈ m.map (·.1), P k := fun k hk => by
    obtain ⟨q, hq, rfl⟩ := List.mem_map.mp hk
    exact h q hq
  rcases putS_keys m s v with e | ⟨_, e⟩
  · rw [e] at hk
    exact back _ hk
  · rw [e] at hk
    rcases List.mem_append.mp hk with hk | hk
    · exact back _ hk
    · rw [List.mem_singleton.mp hk]
      exact hs
theorem co_putS : ∀ (m : Ps) (s : Str) (v : Int) (t : Str), (m.map (·.1)).Nodup → co (putS m s v) t = if t = s then v else co m t
  | [], s, v, t, _ => by
    show (if s = t then v else 0) + 0 = _
    by_cases e : t = s
    · rw [if_pos e, if_pos e.symm]; omega
    · rw [if_neg e, if_neg (Ne.symm e)]; rfl
  | (x, u) :: r, s, v, t, hn => by
    rw [List.map_cons, List.nodup_cons] at hn
    unfold putS
    by_cases e : x = s
    · rw [if_pos e]
      subst e
      show (if x = t then v else 0) + co r t = if t = x then v else (if x = t then u else 0) + co r t
      by_cases e2 : t = x
      · subst e2
        rw [if_pos rfl, if_pos rfl, co_out hn.1]; omega
      · rw [if_neg e2, if_neg (Ne.symm e2), if_neg (Ne.symm e2)]
    · rw [if_neg e]
      show (if x = t then u else 0) + co (putS r s v) t = if t = s then v else (if x = t then u else 0) + co r t
      rw [co_putS r s v t hn.2]
      by_cases e2 : t = s
      · subst e2
        rw [if_pos rfl, if_pos rfl, if_neg e]; omega
      · rw [if_neg e2, if_neg e2]
/-- as a dict of the layer -/
def kvI (m : Ps) : List (Key × V) := m.map fun p => (Sum.inr p.1, V.int p.2)
theorem kvI_len (m : Ps) : (kvI m).length = m.length := List.length_map _
theorem kvI_any : ∀ (m : Ps) (s : Str), ((kvI m).any fun kv => decide (kv.1 = Sum.inr s)) = decide (s ∈ m.map (·.1))
  | [], s => by simp [kvI]
  | (x, u) :: r, s => by
    show (decide ((Sum.inr x : Key) = Sum.inr s) || (kvI r).any fun kv => decide (kv.1 = Sum.inr s)) = _
    rw [kvI_any r s, key_rr]
    by_cases e : x = s
    · subst e; simp
    · have : ¬ s = x := Ne.symm e
      simp [e, this]
theorem kvI_upd : ∀ (m : Ps) (s : Str) (v : Int), s ∈ m.map (·.1) → (m.map (·.1)).Nodup → (kvI m).map (fun kv => if kv.1 = Sum.inr s then (kv.1, V.int v) else kv) = kvI (putS m s v)
  | (x, u) :: r, s, v, h, hn => by
    rw [List.map_cons, List.nodup_cons] at hn
    show (if (Sum.inr x : Key) = Sum.inr s then ((Sum.inr x : Key), V.int v) else (Sum.inr x, V.int u)) :: (kvI r).map _ = kvI (if x = s then (x, v) :: r else (x, u) :: putS r s v)
    by_cases e : x = s
    · subst e
      rw [if_pos rfl, if_pos rfl]
      have hx : ∀ (l : Ps), x ∉ l.map (·.1) → (kvI l).map (fun kv => if kv.1 = (Sum.inr x : Key) then (kv.1, V.int v) else kv) = kvI l := fun l => by
        induction l with
        | nil => intro _; rfl
        | cons p l ih =>
          obtain ⟨y, z⟩ := p
          intro hl
          rw [List.map_cons, List.mem_cons, not_or] at hl
          show (if (Sum.inr y : Key) = Sum.inr x then ((Sum.inr y : Key), V.int v) else ((Sum.inr y : Key), V.int z)) :: ((kvI l).map fun kv => if kv.1 = (Sum.inr x : Key) then (kv.1, V.int v) else kv) = _
          rw [if_neg (fun q => hl.1 (Sum.inr.inj q).symm), ih hl.2]
          rfl
      rw [hx r hn.1]
      rfl
    · rw [if_neg (fun q => e (Sum.inr.inj q)), if_neg e]
      rw [List.map_cons, List.mem_cons] at h
      rw [kvI_upd r s v (h.resolve_left (Ne.symm e)) hn.2]
      rfl
theorem putS_new : ∀ (m : Ps) (s : Str) (v : Int), s ∉ m.map (·.1) → putS m s v = m ++ [(s, v)]
  | [], _, _, _ => rfl
  | (x, u) :: r, s, v, h => by
    rw [List.map_cons, List.mem_cons, not_or] at h
    unfold putS
    rw [if_neg (Ne.symm h.1), putS_new r s v h.2]
    rfl
theorem kvI_put {m : Ps} (s : Str) (v : Int) (hn : (m.map (·.1)).Nodup) : putK (kvI m) (Sum.inr s) (V.int v) = kvI (putS m s v) := by
  unfold putK
  rw [kvI_any]
  by_cases h : s ∈ m.map (·.1)
  · rw [if_pos (by simpa using h), kvI_upd m s v h hn]
  · rw [if_neg (by simpa using h), putS_new m s v h]
    unfold kvI
    rw [List.map_append]
    rfl
theorem kvI_val : ∀ (m : Ps) (s : Str), (m.map (·.1)).Nodup → (valV (kvI m) (Sum.inr s)).getD (V.int 0) = V.int (co m s)
  | [], s, _ => rfl
  | (x, u) :: r, s, hn => by
    rw [List.map_cons, List.nodup_cons] at hn
    show (valV (((Sum.inr x : Key), V.int u) :: kvI r) (Sum.inr s)).getD (V.int 0) = V.int ((if x = s then u else 0) + co r s)
    by_cases e : x = s
    · subst e
      rw [valV_pos rfl, if_pos rfl, co_out hn.1]
      show V.int u = V.int (u + 0)
      rw [Int.add_zero]
    · rw [valV_neg (fun q => e (Sum.inr.inj q)), if_neg e, kvI_val r s hn.2, Int.zero_add]
theorem kvI_get : ∀ {m : Ps} {s : Str}, (m.map (·.1)).Nodup → s ∈ m.map (·.1) → valV (kvI m) (Sum.inr s) = some (V.int (co m s))
  | (x, u) :: r, s, hn, h => by
    rw [List.map_cons, List.nodup_cons] at hn
    show valV (((Sum.inr x : Key), V.int u) :: kvI r) (Sum.inr s) = some (V.int ((if x = s then u else 0) + co r s))
    by_cases e : x = s
    · subst e
      rw [valV_pos rfl, if_pos rfl, co_out hn.1, Int.add_zero]
    · rw [List.map_cons, List.mem_cons] at h
      rw [valV_neg (fun q => e (Sum.inr.inj q)), if_neg e, kvI_get hn.2 (h.resolve_left (Ne.symm e)), Int.zero_add]
theorem kvI_keys (m : Ps) : (kvI m).map (·.1) = (m.map (·.1)).map Sum.inr := by
  unfold kvI
  rw [List.map_map, List.map_map]
  rfl
/-! ### order -/
theorem lt_irr : ∀ a : List Nat, ltCps a a = false
  | [] => rfl
  | x :: r => by
    show (decide (x < x) || (x == x && ltCps r r)) = false
    rw [lt_irr r]
    simp
theorem lt_tri : ∀ a b : List Nat, ltCps a b = false → ltCps b a = false → a = b
  | [], [], _, _ => rfl
  | [], _ :: _, h, _ => by cases h
  | _ :: _, [], _, h => by cases h
  | x :: r, y :: t, h1, h2 => by
    have h1 : (decide (x < y) || (x == y && ltCps r t)) = false := h1
    have h2 : (decide (y < x) || (y == x && ltCps t r)) = false := h2
    rw [Bool.or_eq_false_iff] at h1 h2
    have e : x = y := by
      have a := of_decide_eq_false h1.1
      have b := of_decide_eq_false h2.1
      omega
    subst e
    have a := h1.2
    have b := h2.2
    simp only [beq_self_eq_true, Bool.true_and] at a b
    rw [lt_tri r t a b]
theorem lt_trans' : ∀ a b c : List Nat, ltCps a b = true → ltCps b c = true → ltCps a c = true
  | [], [], _, h, _ => by cases h
  | [], _ :: _, [], _, h => by cases h
  | [], _ :: _, _ :: _, _, _ => rfl
  | _ :: _, [], _, h, _ => by cases h
  | _ :: _, _ :: _, [], _, h => by cases h
  | x :: r, y :: t, z :: u, h1, h2 => by
    have h1 : (decide (x < y) || (x == y && ltCps r t)) = true := h1
    have h2 : (decide (y < z) || (y == z && ltCps t u)) = true := h2
    show (decide (x < z) || (x == z && ltCps r u)) = true
    rw [Bool.or_eq_true] at h1 h2 ⊢
    rw [Bool.and_eq_true] at h1 h2 ⊢
    rcases h1 with h1 | ⟨h1, g1⟩
    · have h1 := of_decide_eq_true h1
      rcases h2 with h2 | ⟨h2, _⟩
      · have h2 := of_decide_eq_true h2
        exact .inl (decide_eq_true (by omega))
      · have h2 := eq_of_beq h2
        exact .inl (decide_eq_true (by omega))
    · have h1 := eq_of_beq h1
      rcases h2 with h2 | ⟨h2, g2⟩
      · have h2 := of_decide_eq_true h2
        exact .inl (decide_eq_true (by omega))
      · have h2 := eq_of_beq h2
        exact .inr ⟨by rw [h1, h2]; simp, lt_trans' r t u g1 g2⟩
/-- a ≤ b -/
def LeS (a b : Str) : Prop := ltCps b.cps.toList a.cps.toList = false
theorem leS_anti {a b : Str} (h1 : LeS a b) (h2 : LeS b a) : a = b := by
  have := lt_tri _ _ h2 h1
  obtain ⟨a⟩ := a
  obtain ⟨b⟩ := b
  have e : a = b := by
    have h : a.toList = b.toList := this
    exact Array.ext' h
  rw [e]
theorem leS_trans {a b c : Str} (h1 : LeS a b) (h2 : LeS b c) : LeS a c := by
  unfold LeS at *
  cases h : ltCps c.cps.toList a.cps.toList with
  | false => rfl
  | true =>
    exfalso
    cases hab : ltCps a.cps.toList b.cps.toList with
    | true =>
      have := lt_trans' _ _ _ h hab
      rw [this] at h2
      cases h2
    | false =>
      have e := lt_tri _ _ hab h1
      rw [e] at h
      rw [h] at h2
      cases h2
theorem rising_pw : ∀ (p : Str) (l : List Str), risingS p l = true → (p :: l).Pairwise LeS
  | p, [], _ => List.pairwise_singleton _ _
  | p, x :: r, h => by
    have h : (!ltCps x.cps.toList p.cps.toList && risingS x r) = true := h
    rw [Bool.and_eq_true, Bool.not_eq_true'] at h
    have ih := rising_pw x r h.2
    refine List.pairwise_cons.mpr ⟨fun y hy => ?_, ih⟩
    rcases List.mem_cons.mp hy with rfl | hy
    · exact h.1
    · exact leS_trans h.1 ((List.pairwise_cons.mp ih).1 y hy)
theorem sorted_pw {l : List Str} (h : sortedS l = true) : l.Pairwise LeS := by
  cases l with
  | nil => exact List.Pairwise.nil
  | cons x r => exact rising_pw x r h
theorem sorted_one : ∀ {l l' : List Str}, l.Pairwise LeS → l'.Pairwise LeS → l.Perm l' → l = l'
  | [], l', _, _, h => (List.nil_perm.mp h).symm
  | x :: r, [], _, _, h => absurd h.symm (fun q => by have := List.nil_perm.mp q; cases this)
  | x :: r, y :: t, h1, h2, h => by
    have e : x = y := by
      have hx : x ∈ y :: t := h.mem_iff.mp List.mem_cons_self
      have hy : y ∈ x :: r := h.mem_iff.mpr List.mem_cons_self
      rcases List.mem_cons.mp hx with e | hx
      · exact e
      · rcases List.mem_cons.mp hy with e | hy
        · exact e.symm
        · exact leS_anti ((List.pairwise_cons.mp h1).1 y hy) ((List.pairwise_cons.mp h2).1 x hx)
    subst e
    rw [sorted_one (List.pairwise_cons.mp h1).2 (List.pairwise_cons.mp h2).2 (List.perm_cons x |>.mp h)]
/-- the list of a form's or a dict's parts: by symbols, ascending, without noughts -/
structure Can (L : Ps) (g : Str → Int) : Prop where
  srt : (L.map (·.1)).Pairwise LeS
  nd : (L.map (·.1)).Nodup
  nz : ∀ q ∈ L, q.2 ≠ 0
  val : ∀ s, co L s = g s
theorem can_mem {L : Ps} {g : Str → Int} (c : Can L g) (s : Str) : s ∈ L.map (·.1) ↔ g s ≠ 0 := by
  constructor
  · intro h
    obtain ⟨q, hq, rfl⟩ := List.mem_map.mp h
    rw [← c.val, co_in c.nd hq]
    exact c.nz q hq
  · intro h
    refine Classical.byContradiction fun n => h ?_
    rw [← c.val, co_out n]
theorem perm_of_mem : ∀ {l l' : List Str}, l.Nodup → l'.Nodup → (∀ s, s ∈ l ↔ s ∈ l') → l.Perm l' := fun {l l'} n n' h => (List.perm_ext_iff_of_nodup n n').mpr h
theorem ps_of_keys : ∀ {L L' : Ps}, L.map (·.1) = L'.map (·.1) → (L.map (·.1)).Nodup → (∀ s, co L s = co L' s) → L = L'
  | [], [], _, _, _ => rfl
  | [], _ :: _, h, _, _ => by cases h
  | _ :: _, [], h, _, _ => by cases h
  | (x, u) :: r, (y, v) :: t, h, hn, hv => by
    rw [List.map_cons, List.map_cons] at h
    injection h with h1 h2
    simp only at h1
    subst h1
    rw [List.map_cons, List.nodup_cons] at hn
    have hn' : x ∉ t.map (·.1) := by rw [← h2]; exact hn.1
    have e : u = v := by
      have := hv x
      have a : co ((x, u) :: r) x = u := by
        show (if x = x then u else 0) + co r x = u
        rw [if_pos rfl, co_out hn.1]; omega
      have b : co ((x, v) :: t) x = v := by
        show (if x = x then v else 0) + co t x = v
        rw [if_pos rfl, co_out hn']; omega
      rw [a, b] at this
      exact this
    subst e
    rw [ps_of_keys h2 hn.2 fun s => ?_]
    have h3 : (if x = s then u else 0) + co r s = (if x = s then u else 0) + co t s := hv s
    omega
theorem can_one {L L' : Ps} {g g' : Str → Int} (c : Can L g) (c' : Can L' g') (e : ∀ s, g s = g' s) : L = L' := by
  have hk : L.map (·.1) = L'.map (·.1) := sorted_one c.srt c'.srt (perm_of_mem c.nd c'.nd fun s => by rw [can_mem c, can_mem c', e s])
  exact ps_of_keys hk c.nd fun s => by rw [c.val, c'.val, e s]
end Ow

set_option Elab.async false
set_option linter.all false
set_option maxRecDepth 100000
set_option maxHeartbeats 1000000
namespace Ow
open PySem PySem.Spec PyProof.Rows L2
/-! ### symbols -/
def isLc (l : List Nat) : Bool := decide (1 ≤ l.length) && (decide (l.length ≤ 3) && l.all fun c => decide (97 ≤ c) && decide (c ≤ 122))
def isRc : List Nat → Bool
  | 114 :: ds => decide (1 ≤ ds.length) && (decide (ds.length ≤ 60) && ((ds.all fun c => decide (48 ≤ c) && decide (c ≤ 57)) && (ds == [48] || ds.head? != some 48)))
  | _ => false
def isSym (x : Str) : Bool := isLc x.cps.toList || isRc x.cps.toList
theorem sym_r : ∀ n : Fin 1000, isSym (("r" : Str) ++ ((toString ((n.val : Nat) : Int) : String) : Str)) = true := by decide +kernel
theorem sym_small {x : Str} (h : isSym x = true) : x.cps.toList.length ≤ 61 := by
  unfold isSym at h
  rw [Bool.or_eq_true] at h
  rcases h with h | h
  · unfold isLc at h
    simp only [Bool.and_eq_true, decide_eq_true_eq] at h
    omega
  · unfold isRc at h
    split at h
    · rename_i ds e
      simp only [Bool.and_eq_true, decide_eq_true_eq] at h
      rw [e, List.length_cons]
      omega
    · cases h
theorem sym_len {x : Str} (h : isSym x = true) : x.length ≤ sizeLine := by
  have := sym_small h
  rw [Array.length_toList] at this
  exact Nat.le_trans (show x.length ≤ 61 from this) (by decide)
/-- no name of a parameter is a symbol -/
theorem sym_ne {x : Str} (h : isSym x = true) : x ≠ "self" ∧ x ≠ "constant" := by
  constructor
  · rintro rfl
    exact absurd h (by decide +kernel)
  · rintro rfl
    exact absurd h (by decide +kernel)
/-! ### lists of pairs -/
def PairAt (H : Hp) (x : V) (q : Str × Int) : Prop := ∃ t, x = .ref t ∧ H t = some (.tup [.str q.1, .int q.2])
def PairsAt (H : Hp) (l : Addr) (ps : Ps) : Prop := ∃ xs, H l = some (.lst xs) ∧ Paired (PairAt H) xs ps
structure OkPs (ps : Ps) : Prop where
  sym : ∀ q ∈ ps, isSym q.1 = true
  big : ∀ q ∈ ps, q.2.natAbs ≤ 10 ^ 25
theorem PairAt.same {H H' : Hp} {x : V} {q : Str × Int} (h : PairAt H x q) (s : Same H H') : PairAt H' x q := by
  obtain ⟨t, e, h⟩ := h
  exact ⟨t, e, s _ _ h⟩
theorem paired_map {α β : Type} {F G : α → β → Prop} (f : ∀ a b, F a b → G a b) : ∀ {l : List α} {m : List β}, Paired F l m → Paired G l m
  | _, _, .nil => .nil
  | _, _, .cons h r => .cons (f _ _ h) (paired_map f r)
theorem PairsAt.same {H H' : Hp} {l : Addr} {ps : Ps} (h : PairsAt H l ps) (s : Same H H') : PairsAt H' l ps := by
  obtain ⟨xs, e, p⟩ := h
  exact ⟨xs, s _ _ e, paired_map (fun _ _ q => q.same s) p⟩
theorem PairAt.stay {H H' : Hp} {b : Addr} {x : V} {q : Str × Int} (h : PairAt H x q) (s : Stay b H H') (hb : ∃ xs, H b = some (.lst xs)) : PairAt H' x q := by
  obtain ⟨t, e, h⟩ := h
  obtain ⟨ys, hb⟩ := hb
  exact ⟨t, e, s _ _ (ne_of h hb (by intro z; cases z)) h⟩
theorem BagAt.lst {H : Hp} {b : Addr} {n : Nat} (h : BagAt H b n) : ∃ xs, H b = some (.lst xs) := by
  obtain ⟨d, m, k, h, _⟩ := h
  exact ⟨_, h⟩
theorem PairsAt.stay {H H' : Hp} {b l : Addr} {ps : Ps} (h : PairsAt H l ps) (s : Stay b H H') (hb : ∃ xs, H b = some (.lst xs)) (ne : l ≠ b) : PairsAt H' l ps := by
  obtain ⟨xs, e, p⟩ := h
  exact ⟨xs, s _ _ ne e, paired_map (fun _ _ q => q.stay s hb) p⟩
/-! ### the promises of the draws -/
def spNumber : Sp := fun vs H Q _ => ∃ (b : Addr) (n : Nat), vs = [.ref b] ∧ BagAt H b n ∧ n < 900000000 ∧ ∀ v H', v.natAbs ≤ 10 ^ 25 → BagAt H' b (n + 2) → Stay b H H' → Q (.int v) H'
def spSymbol : Sp := fun vs H Q _ => ∃ (b : Addr) (n : Nat), vs = [.ref b] ∧ BagAt H b n ∧ n < 900000000 ∧ ∀ x H', isSym x = true → BagAt H' b (n + 10) → Stay b H H' → Q (.str x) H'
def spPairs : Sp := fun vs H Q _ => ∃ (b : Addr) (n : Nat) (many : Nat), vs = [.ref b, .int (many : Int)] ∧ BagAt H b n ∧ n < 800000000 ∧ 0 < many ∧ many ≤ 64 ∧
  ∀ l ps H', l ≠ b → H l = none → PairsAt H' l ps → OkPs ps → ps.length < many → BagAt H' b (n + 2000) → Stay b H H' → Q (.ref l) H'
end Ow

set_option Elab.async false
set_option linter.all false
set_option maxRecDepth 100000
set_option maxHeartbeats 1000000
namespace Ow
open PySem PySem.Spec PyProof.Rows L2
/-! ### data of pairs -/
theorem sym_cps {x : Str} (h : isSym x = true) : ∀ c ∈ x.cps.toList, c < 1114112 := by
  unfold isSym at h
  rw [Bool.or_eq_true] at h
  rcases h with h | h
  · unfold isLc at h
    simp only [Bool.and_eq_true, decide_eq_true_eq, List.all_eq_true] at h
    intro c hc
    have := h.2.2 c hc
    omega
  · unfold isRc at h
    split at h
    · rename_i ds e
      simp only [Bool.and_eq_true, decide_eq_true_eq, List.all_eq_true] at h
      intro c hc
      rw [e] at hc
      rcases List.mem_cons.mp hc with rfl | hc
      · decide
      · have := h.2.2.1 c hc
        omega
    · cases h
theorem sym_ok {x : Str} (h : isSym x = true) : PyData.strOk x = true := by
  unfold PyData.strOk
  rw [← Array.all_toList, List.all_eq_true]
  exact fun c hc => decide_eq_true (sym_cps h c hc)
def datP (ps : Ps) : List PyData := ps.map fun q => .tuple [.str q.1, .int q.2]
theorem dpAll_ps {K : PySem.W.Frag} {H : Hp} : ∀ {xs : List V} {ps : Ps}, Paired (PairAt H) xs ps → DpAll K H xs (datP ps)
  | _, _, .nil => .nil
  | _, _, .cons h r => by
    obtain ⟨t, rfl, h⟩ := h
    exact .cons (.tup (SqT.of h) (.cons (.str _) (.cons (.int _) .nil))) (dpAll_ps r)
theorem can_ps : ∀ {ps : Ps}, (∀ q ∈ ps, isSym q.1 = true) → PyData.canLayAll0 (datP ps) = true
  | [], _ => rfl
  | q :: ps, h => by
    show ((PyData.strOk q.1 && (true && true)) && PyData.canLayAll0 (datP ps)) = true
    rw [sym_ok (h q List.mem_cons_self), can_ps fun p hp => h p (List.mem_cons_of_mem _ hp)]
    rfl
theorem depth_ps : ∀ (ps : Ps), PyData.depthAll (datP ps) ≤ 1
  | [] => Nat.zero_le _
  | q :: ps => by
    show max (PyData.depth (.tuple [.str q.1, .int q.2])) (PyData.depthAll (datP ps)) ≤ 1
    have h1 : PyData.depth (.tuple [.str q.1, .int q.2]) = 1 := by simp [PyData.depth, PyData.depthAll]
    have h2 := depth_ps ps
    omega
theorem shapedL {ps : Ps} (h : ∀ q ∈ ps, isSym q.1 = true) : SeqAt.shaped (.list (datP ps)) = true := by
  unfold SeqAt.shaped
  rw [Bool.and_eq_true]
  refine ⟨can_ps h, decide_eq_true ?_⟩
  have := depth_ps ps
  show PyData.depthAll (datP ps) + 1 ≤ 64
  omega
def datW (c : Int) (ps : Ps) : PyData := .tuple [.int c, .tuple (datP ps)]
theorem shapedW (c : Int) {ps : Ps} (h : ∀ q ∈ ps, isSym q.1 = true) : SeqAt.shaped (datW c ps) = true := by
  unfold SeqAt.shaped
  rw [Bool.and_eq_true]
  refine ⟨?_, decide_eq_true ?_⟩
  · show (true && (PyData.canLayAll0 (datP ps) && true)) = true
    rw [can_ps h]
    rfl
  · have h2 := depth_ps ps
    have h1 : PyData.depth (datW c ps) = PyData.depthAll (datP ps) + 1 + 1 := by simp [datW, PyData.depth, PyData.depthAll]
    omega
theorem eqvW (c : Int) {ps : Ps} (h : ∀ q ∈ ps, isSym q.1 = true) : PyData.eqv (datW c ps) (datW c ps) = true := SeqAt.eqv_refl _ (SeqAt.canLay_of_shaped (shapedW c h))
theorem eqv_nil (ps : Ps) : PyData.eqv (.list (datP ps)) (.list []) = ps.isEmpty := by
  cases ps <;> rfl
/-- a tuple (constant, pairs) in the heap -/
def WrAt (H : Hp) (x : V) (c : Int) (ps : Ps) : Prop := ∃ a b xs, x = .ref a ∧ H a = some (.tup [.int c, .ref b]) ∧ H b = some (.tup xs) ∧ Paired (PairAt H) xs ps
theorem WrAt.dp {K : PySem.W.Frag} {H : Hp} {x : V} {c : Int} {ps : Ps} (h : WrAt H x c ps) : Dp K H x (datW c ps) := by
  obtain ⟨a, b, xs, rfl, ha, hb, hp⟩ := h
  exact .tup (SqT.of ha) (.cons (.int _) (.cons (.tup (SqT.of hb) (dpAll_ps hp)) .nil))
theorem WrAt.same {H H' : Hp} {x : V} {c : Int} {ps : Ps} (h : WrAt H x c ps) (s : Same H H') : WrAt H' x c ps := by
  obtain ⟨a, b, xs, rfl, ha, hb, hp⟩ := h
  exact ⟨a, b, xs, rfl, s _ _ ha, s _ _ hb, paired_map (fun _ _ q => q.same s) hp⟩
theorem paired_len {α β : Type} {F : α → β → Prop} : ∀ {l : List α} {m : List β}, Paired F l m → l.length = m.length
  | _, _, .nil => rfl
  | _, _, .cons _ r => by rw [List.length_cons, List.length_cons, paired_len r]
theorem paired_at {α β : Type} {F : α → β → Prop} : ∀ {l : List α} {m : List β} {i : Nat} {x : α}, Paired F l m → l[i]? = some x → ∃ y, m[i]? = some y ∧ F x y
  | _, _, 0, _, .cons h r, e => by
    cases e
    exact ⟨_, rfl, h⟩
  | _, _, i + 1, _, .cons h r, e => by
    rw [List.getElem?_cons_succ] at e
    obtain ⟨y, e', h'⟩ := paired_at r e
    exact ⟨y, by rw [List.getElem?_cons_succ]; exact e', h'⟩
theorem paired_snoc {α β : Type} {F : α → β → Prop} {x : α} {y : β} (h : F x y) : ∀ {l : List α} {m : List β}, Paired F l m → Paired F (l ++ [x]) (m ++ [y])
  | _, _, .nil => .cons h .nil
  | _, _, .cons g r => .cons g (paired_snoc h r)
/-- one pair more -/
theorem pairs_push {H : Hp} {l t : Addr} {ps : Ps} {x : Str} {v : Int} (h : PairsAt H l ps) (ht : H t = none) :
    ∃ xs, (upd H t (.tup [.str x, .int v])) l = some (.lst xs) ∧ xs.length = ps.length ∧ PairsAt (upd (upd H t (.tup [.str x, .int v])) l (.lst (xs ++ [.ref t]))) l (ps ++ [(x, v)]) := by
  obtain ⟨xs, hx, hp⟩ := h
  have tl : t ≠ l := fun z => by rw [z, hx] at ht; cases ht
  refine ⟨xs, (upd_ne tl.symm).trans hx, paired_len hp, xs ++ [.ref t], upd_same, paired_snoc ⟨t, rfl, (upd_ne tl).trans upd_same⟩ (paired_map (fun y q hq => ?_) hp)⟩
  obtain ⟨u, rfl, hu⟩ := hq
  exact ⟨u, rfl, (upd_ne (ne_of hu hx (by intro z; cases z))).trans ((upd_ne (ne_of_none hu ht)).trans hu)⟩
theorem BagAt.upd {H : Hp} {b t : Addr} {n : Nat} {o : HO} (h : BagAt H b n) (ne : b ≠ t) : BagAt (L2.upd H t o) b n := by
  obtain ⟨d, m, k, h1, h2⟩ := h
  exact ⟨d, m, k, (upd_ne ne).trans h1, h2⟩
end Ow

set_option Elab.async false
set_option linter.all false
set_option maxRecDepth 100000
set_option maxHeartbeats 1000000
namespace Ow
open PySem PySem.Spec PyProof.Rows L2
structure DictAt (H : Hp) (d : Addr) (m : Ps) : Prop where
  at_ : H d = some (.dK (kvI m))
  nd : (m.map (·.1)).Nodup
  sym : ∀ q ∈ m, isSym q.1 = true
theorem DictAt.same {H H' : Hp} {d : Addr} {m : Ps} (h : DictAt H d m) (s : Same H H') : DictAt H' d m := ⟨s _ _ h.at_, h.nd, h.sym⟩
theorem DictAt.new {H : Hp} {d : Addr} : DictAt (upd H d (.dK [])) d [] := ⟨upd_same, List.nodup_nil, fun q h => (by cases h)⟩
theorem DictAt.put {H : Hp} {d : Addr} {m : Ps} (h : DictAt H d m) (x : Str) (v : Int) (hx : isSym x = true) : DictAt (upd H d (.dK (putK (kvI m) (Sum.inr x) (V.int v)))) d (putS m x v) :=
  ⟨by rw [upd_same, kvI_put x v h.nd], putS_nodup x v h.nd, putS_mem (P := fun s => isSym s = true) h.sym hx⟩
theorem same_new {H H' : Hp} {d : Addr} {o : HO} (s : Same H H') (h : H' d = none) : Same H (upd H' d o) := fun a u e => (upd_ne (ne_of_none (s a u e) h)).trans (s a u e)
theorem same_over {H H' : Hp} {d : Addr} {o : HO} (s : Same H H') (h : H d = none) : Same H (upd H' d o) := fun a u e => (upd_ne (ne_of_none e h)).trans (s a u e)
theorem same_trans {H H' H2 : Hp} (s : Same H H') (t : Same H' H2) : Same H H2 := fun a u e => t a u (s a u e)
def spSums : Sp := fun vs H Q _ => ∃ (l : Addr) (ps : Ps), vs = [.ref l] ∧ PairsAt H l ps ∧ OkPs ps ∧ ps.length < 32 ∧
  ∀ d m H', H d = none → DictAt H' d m → m.length ≤ ps.length → (∀ s, co m s = co ps s) → Same H H' → Q (.ref d) H'
def spWritten : Sp := fun vs H Q _ => ∃ (c : Int) (d : Addr) (m : Ps), vs = [.int c, .ref d] ∧ DictAt H d m ∧ m.length < 64 ∧
  ∀ x L H', WrAt H' x c L → Can L (co m) → (∀ q ∈ L, isSym q.1 = true) → Same H H' → Q x H'
def spBoth : Sp := fun vs H Q _ => ∃ (a b : Addr) (m1 m2 : Ps) (k : Int), vs = [.ref a, .ref b, .int k] ∧ DictAt H a m1 ∧ DictAt H b m2 ∧ m1.length < 30 ∧ m2.length < 30 ∧ (k = 1 ∨ k = -1) ∧
  ∀ d m H', H d = none → DictAt H' d m → m.length ≤ m1.length + m2.length → (∀ s, co m s = co m1 s + k * co m2 s) → Same H H' → Q (.ref d) H'
theorem co_snoc (a : Ps) (x : Str) (v : Int) (s : Str) : co (a ++ [(x, v)]) s = co a s + if s = x then v else 0 := by
  rw [co_append]
  show co a s + co [(x, v)] s = _
  congr 1
  show (if x = s then v else 0) + 0 = _
  by_cases e : s = x
  · rw [if_pos e, if_pos e.symm]
    omega
  · rw [if_neg e, if_neg fun z => e z.symm]
    omega
theorem take_snoc {ps : Ps} {i : Nat} {q : Str × Int} (h : ps[i]? = some q) : ps.take (i + 1) = ps.take i ++ [q] := by
  rw [List.take_add_one, h]
  rfl
theorem mergeK_kvI : ∀ (b a : Ps), ((a ++ b).map (·.1)).Nodup → mergeK (kvI a) (kvI b) = kvI (a ++ b)
  | [], a, _ => by rw [List.append_nil]; rfl
  | (x, v) :: b, a, h => by
    have hx : x ∉ a.map (·.1) := fun hx => by
      rw [List.map_append, List.nodup_append] at h
      exact h.2.2 x hx x (by simp) rfl
    have e : (a ++ (x, v) :: b) = (a ++ [(x, v)]) ++ b := by simp
    have ha : (a.map (·.1)).Nodup := by
      rw [List.map_append, List.nodup_append] at h
      exact h.1
    rw [e] at h ⊢
    rw [← mergeK_kvI b (a ++ [(x, v)]) h, ← putS_new a x v hx, ← kvI_put x v ha]
    rfl
theorem same_unlock {H H' : Hp} {b : Addr} {o : Obj} {u : HO} (hb : H b = some u) (s : Same (upd H b (.frz o u)) H') : Same H (upd H' b u) := fun a x e => by
  by_cases z : a = b
  · subst z
    rw [upd_same, ← hb, e]
  · rw [upd_ne z]
    exact s a x ((upd_ne z).trans e)
theorem dget_r {H : Hp} {d : Addr} {m : Ps} {y : Str} (r : Rd H d (.dK (kvI m))) (nd : (m.map (·.1)).Nodup) (hy : y ∈ m.map (·.1)) : DGet H d (.str y) (some (.int (co m y))) :=
  .inl ⟨kvI m, Sum.inr y, r, rfl, (kvI_get nd hy).symm⟩
/-! ### the pairs of symbols in order, without noughts -/
def canL (ys : List Str) (g : Str → Int) : Ps := (ys.map fun s => (s, g s)).filter fun q => decide (q.2 ≠ 0)
theorem canL_keys : ∀ (ys : List Str) (g : Str → Int), (canL ys g).map (·.1) = ys.filter fun s => decide (g s ≠ 0)
  | [], _ => rfl
  | y :: ys, g => by
    have ih := canL_keys ys g
    unfold canL at ih ⊢
    rw [List.map_cons, List.filter_cons, List.filter_cons]
    by_cases e : decide (g y ≠ 0) = true
    · rw [if_pos e, if_pos e, List.map_cons, ih]
    · rw [if_neg e, if_neg e, ih]
theorem canL_mem {ys : List Str} {g : Str → Int} {q : Str × Int} (h : q ∈ canL ys g) : q.1 ∈ ys ∧ q.2 = g q.1 ∧ q.2 ≠ 0 := by
  unfold canL at h
  obtain ⟨h1, h2⟩ := List.mem_filter.mp h
  obtain ⟨s, hs, rfl⟩ := List.mem_map.mp h1
  exact ⟨hs, rfl, of_decide_eq_true h2⟩
theorem canL_can {ys : List Str} {g : Str → Int} (h1 : ys.Pairwise LeS) (h2 : ys.Nodup) (h3 : ∀ s, g s ≠ 0 → s ∈ ys) : Can (canL ys g) g := by
  have nd : ((canL ys g).map (·.1)).Nodup := by
    rw [canL_keys]
    exact h2.sublist List.filter_sublist
  refine ⟨?_, nd, fun q hq => (canL_mem hq).2.2, fun s => ?_⟩
  · rw [canL_keys]
    exact h1.sublist List.filter_sublist
  · by_cases e : g s = 0
    · rw [e]
      refine co_out fun hs => ?_
      obtain ⟨q, hq, rfl⟩ := List.mem_map.mp hs
      have := canL_mem hq
      exact this.2.2 (this.2.1.trans e)
    · have hs : (s, g s) ∈ canL ys g := by
        unfold canL
        exact List.mem_filter.mpr ⟨List.mem_map.mpr ⟨s, h3 s e, rfl⟩, decide_eq_true e⟩
      exact co_in nd hs
theorem canL_take {ys : List Str} {g : Str → Int} {i : Nat} {y : Str} (h : ys[i]? = some y) : canL (ys.take (i + 1)) g = canL (ys.take i) g ++ if g y = 0 then [] else [(y, g y)] := by
  unfold canL
  rw [List.take_add_one, h, List.map_append, List.filter_append]
  congr 1
  by_cases e : g y = 0
  · rw [if_pos e]
    simp [e]
  · rw [if_neg e]
    simp [e]
theorem canL_len (ys : List Str) (g : Str → Int) : (canL ys g).length ≤ ys.length := by
  unfold canL
  exact Nat.le_trans (List.length_filter_le _ _) (by rw [List.length_map]; exact Nat.le_refl _)
theorem push_lc {H : Hp} {l t : Addr} {acc : List V} {L : Ps} {x : Str} {v : Int} (hx : H l = some (.lst acc)) (hp : Paired (PairAt H) acc L) (ht : H t = none) :
    upd H t (.tup [.str x, .int v]) l = some (.lst acc) ∧ Paired (PairAt (upd (upd H t (.tup [.str x, .int v])) l (.lst (acc ++ [.ref t])))) (acc ++ [.ref t]) (L ++ [(x, v)]) := by
  have tl : t ≠ l := fun z => by rw [z, hx] at ht; cases ht
  refine ⟨(upd_ne tl.symm).trans hx, paired_snoc ⟨t, rfl, (upd_ne tl).trans upd_same⟩ (paired_map (fun y q hq => ?_) hp)⟩
  obtain ⟨u, rfl, hu⟩ := hq
  exact ⟨u, rfl, (upd_ne (ne_of hu hx (by intro z; cases z))).trans ((upd_ne (ne_of_none hu ht)).trans hu)⟩
theorem kvI_at {m : Ps} {i : Nat} {k : Key} {v : V} (h : (kvI m)[i]? = some (k, v)) : ∃ q, m[i]? = some q ∧ k = Sum.inr q.1 ∧ v = .int q.2 := by
  unfold kvI at h
  rw [List.getElem?_map] at h
  cases e : m[i]? with
  | none => rw [e] at h; cases h
  | some q => rw [e] at h; cases h; exact ⟨q, rfl, rfl, rfl⟩
theorem pair_addr {H : Hp} : ∀ {acc : List V} {L : Ps}, Paired (PairAt H) acc L → ∃ ps : List Addr, acc = ps.map V.ref ∧ Paired (fun p (kv : Key × V) => H p = some (.tup [kV kv.1, kv.2])) ps (kvI L)
  | _, _, .nil => ⟨[], rfl, .nil⟩
  | _, _, .cons h r => by
    obtain ⟨t, rfl, ht⟩ := h
    obtain ⟨ps, rfl, hp⟩ := pair_addr r
    exact ⟨t :: ps, rfl, .cons ht hp⟩
theorem str_at {ys : List Str} {i : Nat} {x : V} (h : (ys.map V.str)[i]? = some x) : ∃ y, ys[i]? = some y ∧ x = .str y := by
  rw [List.getElem?_map] at h
  cases e : ys[i]? with
  | none => rw [e] at h; cases h
  | some y => rw [e] at h; exact ⟨y, rfl, (Option.some.inj h).symm⟩
theorem wr_new {H : Hp} {acc : List V} {L : Ps} {l x : Addr} {c : Int} (hp : Paired (PairAt H) acc L) (hl : H l = none) (hx : upd H l (.tup acc) x = none) : WrAt (upd (upd H l (.tup acc)) x (.tup [.int c, .ref l])) (.ref x) c L := by
  have ne : l ≠ x := fun z => by rw [z, upd_same] at hx; cases hx
  exact ⟨x, l, acc, rfl, upd_same, (upd_ne ne).trans upd_same, paired_map (fun _ _ q => q.same (same_new (same_new (fun _ _ e => e) hl) hx)) hp⟩
end Ow

set_option Elab.async false
set_option linter.all false
set_option maxRecDepth 100000
set_option maxHeartbeats 1000000
namespace Ow
open PySem PySem.Spec PyProof.Rows L2
section
variable {X : Cx} {x z : Str} {n : Int} {pos : Pos}
theorem pe_globS (hg : Gl X x) (hm : ∃ t, X.mg x = some (.str z t)) (hd : (x == ("__debug__" : Str)) = false := by decide) : PE X (.Name x pos) (tC (.str z)) := by
  obtain ⟨t, hm⟩ := hm
  exact pe_glob hg hm ⟨t, rfl⟩ hd
theorem pe_globI (hg : Gl X x) (hm : ∃ t, X.mg x = some (.int n t)) (hd : (x == ("__debug__" : Str)) = false := by decide) : PE X (.Name x pos) (tC (.int n)) := by
  obtain ⟨t, hm⟩ := hm
  exact pe_glob hg hm ⟨t, rfl⟩ hd
end
theorem starts1 (x : Str) (c : Nat) : Txt.startswith x ⟨#[c]⟩ = (x.cps.toList.head? == some c) := by
  obtain ⟨⟨l⟩⟩ := x
  cases l with
  | nil => rfl
  | cons a l =>
    unfold Txt.startswith Builtin.Str.subAt
    have h1 : (⟨⟨a :: l⟩⟩ : Str).length = l.length + 1 := rfl
    have h2 : (⟨#[c]⟩ : Str).length = 1 := rfl
    rw [h1, h2]
    simp
theorem tail1 (x : Str) : cutS x (some 1) none = ⟨(x.cps.toList.drop 1).toArray⟩ := by
  obtain ⟨⟨l⟩⟩ := x
  unfold cutS
  have h1 : (⟨⟨l⟩⟩ : Str).length = l.length := rfl
  rw [h1, HT.sIx_none, show (1 : Int) = ((1 : Nat) : Int) from rfl, HT.sIx_nat]
  cases l with
  | nil => rfl
  | cons a l =>
    have : min 1 (a :: l).length = 1 := by simp
    rw [this]
    simp
def abcL : Str := "abcdefghijklmnopqrstuvwxyz"
def digL : Str := "0123456789"
theorem abc_list : abcL.cps.toList = List.range' 97 26 := by decide +kernel
theorem dig_list : digL.cps.toList = List.range' 48 10 := by decide +kernel
theorem abc_mem (c : Nat) : decide (c ∈ abcL.cps.toList) = (decide (97 ≤ c) && decide (c ≤ 122)) := by
  rw [abc_list, Bool.eq_iff_iff]
  simp only [decide_eq_true_eq, Bool.and_eq_true, List.mem_range'_1]
  omega
theorem dig_mem (c : Nat) : decide (c ∈ digL.cps.toList) = (decide (48 ≤ c) && decide (c ≤ 57)) := by
  rw [dig_list, Bool.eq_iff_iff]
  simp only [decide_eq_true_eq, Bool.and_eq_true, List.mem_range'_1]
  omega
theorem isRc_eq (l : List Nat) : isRc l = ((l.head? == some 114) && (decide (1 ≤ (l.drop 1).length) && (decide ((l.drop 1).length ≤ 60) && (((l.drop 1).all fun c => decide (48 ≤ c) && decide (c ≤ 57)) && ((l.drop 1) == [48] || (l.drop 1).head? != some 48))))) := by
  unfold isRc
  split
  · rfl
  · rename_i h
    cases l with
    | nil => rfl
    | cons a l =>
      have : ¬ a = 114 := fun z => h l (by rw [z])
      show false = ((some a == some 114) && _)
      have e : (some a == some 114) = false := by simp [this]
      rw [e]
      rfl
theorem str_eq_of {x y : Str} (h : x.cps.toList = y.cps.toList) : x = y := by
  obtain ⟨⟨l⟩⟩ := x
  obtain ⟨⟨l'⟩⟩ := y
  cases (show l = l' from h)
  rfl
def spIsL : Sp := fun vs H Q _ => ∃ x : Str, vs = [.str x] ∧ x.length ≤ sizeLine ∧ ∀ H', Same H H' → Q (.bl (isLc x.cps.toList)) H'
def spIsR : Sp := fun vs H Q _ => ∃ x : Str, vs = [.str x] ∧ x.length ≤ sizeLine ∧ ∀ H', Same H H' → Q (.bl (isRc x.cps.toList)) H'
def spIsS : Sp := fun vs H Q _ => ∃ x : Str, vs = [.str x] ∧ x.length ≤ sizeLine ∧ ∀ H', Same H H' → Q (.bl (isSym x)) H'
end Ow

set_option Elab.async false
set_option linter.all false
set_option maxRecDepth 100000
set_option maxHeartbeats 1000000
namespace Ow
open PySem PySem.Spec PyProof.Rows L2
/-- a classmethod of the class at C, with its promise -/
structure CalC (P : Program) (w : World) (K : PySem.W.Frag) (mg : Str → Option Value) (base : Heap) (C : Addr) (m : Str) (k : Nat) (sp : Sp) : Prop where
  ex : ∃ (mc : Value) (p g : Addr), ClX.CRead K C mc ∧ ClX.CMet K C mc m p g ∧ FnR P w K mg base CX0 k g sp
section
variable {X : Cx} {k : Nat} {sp : Sp} {x m : Str} {e o : Expr} {es : List Expr} {t : TA} {te : TE} {p pos apos : Pos} {C : Addr}
theorem pe_calC {pl : Sem Bool} (c : CalC X.prog X.w X.K X.mg X.base C m k sp) (hr : Room k X.A) (ho : PE X o te) (ha : PA X (e :: es) t)
    (hst : starEach (e :: es) X.env = (false, eval e X.env) :: starEach es X.env := by rfl) (hpl : (backTo pos (starEach es X.env)).any (·.1) = false := by rfl)
    (ht : eval (.Call (.Attribute o m apos) (e :: es) [] pos) X.env = (do
      let ov ← eval o X.env
      standAt apos.atName
      let (f, first) ← holding [ov] (getMethod ov m pl)
      callWith pos f first (backTo pos (starEach (e :: es) X.env)) (backToKw pos (keywordEach [] X.env))) := by rfl) :
    PE X (.Call (.Attribute o m apos) (e :: es) [] pos) (ClX.tCMeth C sp E0 te t) := by
  obtain ⟨mc, q, g, r, cm, F⟩ := c.ex
  exact ClX.pe_cmeth ho r cm F hr pass0 ha hst hpl ht
end
/-- a dict comprehension over a walk -/
theorem dc_it {J : It} {n : Nat} {G : Hp → Prop} {Y : Nat → Hp → V → Hp → Prop} (w : Walk J n G Y) {g : TG} {tt : TT} {tk tv : TE} {vs : List Nat} {σ : L2.St} {H1 : Hp} {D : Addr} {Qd : Hp → Prop} (Pv : Nat → Hp → Prop) (h0 : Pv 0 (upd H1 D (.dK []))) (hG : ∀ i H, i ≤ n → Pv i H → G H)
    (hs : ∀ i x H H', i < n → Pv i H → Y i H x H' → g x (wipe σ vs) H' fun σ2 H2 => wipe σ2 vs = wipe σ vs ∧ tt σ2 H2 fun b H3 =>
      if b = true then tk σ2 H3 fun y H4 => tv σ2 H4 fun z H5 => ∃ kvs k, y = kV k ∧ H5 D = some (.dK kvs) ∧ kvs.length < sizeLine ∧ Pv (i + 1) (upd H5 D (.dK (putK kvs k z))) else Pv (i + 1) H3) (hd : ∀ H, Pv n H → Qd H) :
    ∃ W : Nat → Nat → Hp → Prop, (∃ m, W 0 m (upd H1 D (.dK []))) ∧ ∀ i m H, W i m H →
      (J.stop i H ∧ Qd H) ∨ (J.go i H ∧ ∃ Nx : Hp → Prop, (∀ H', Nx H' → ∃ m', m' < m ∧ W (i + 1) m' H') ∧ ∀ x H', J.yld i H x H' → g x (wipe σ vs) H' fun σ2 H2 => wipe σ2 vs = wipe σ vs ∧ tt σ2 H2 fun b H3 =>
        if b = true then tk σ2 H3 fun y H4 => tv σ2 H4 fun z H5 => ∃ kvs k, y = kV k ∧ H5 D = some (.dK kvs) ∧ kvs.length < sizeLine ∧ Nx (upd H5 D (.dK (putK kvs k z))) else Nx H3) := by
  refine ⟨fun i m H => m = n - i ∧ i ≤ n ∧ Pv i H, ⟨n, by simp, Nat.zero_le _, h0⟩, fun i m H hW => ?_⟩
  obtain ⟨rfl, hi, p⟩ := hW
  have q := hG i H hi p
  rcases Nat.lt_or_ge i n with hlt | hge
  · exact .inr ⟨w.goes i H hlt q, Pv (i + 1), fun H' p' => ⟨n - (i + 1), by omega, rfl, hlt, p'⟩, fun x H' y => hs i x H H' hlt p (w.yields i H x H' hlt q y)⟩
  · obtain rfl : i = n := by omega
    exact .inl ⟨w.stops H q, hd H p⟩
theorem pe_fldK {X : Cx} {e : Expr} {f : Str} {pos : Pos} {ta : TE} {K : PySem.W.Frag} (hK : X.K = K) (he : PE X e ta) (hb : attributeBase e f X.env (eval e X.env) = eval e X.env) : PE X (.Attribute e f pos) (tFld K ta f) := by
  subst hK
  exact pe_fld he hb
/-! ### forms -/
structure FormK (K : PySem.W.Frag) (C : Addr) : Prop where
  cl : Cls K C
  n1 : NoAttr K C "constant"
  n2 : NoAttr K C "_coefficients"
  ha : PySem.W.findIn K (.ref C) "__class__" = some (some (.builtin "object.__class__"))
  hn : PySem.W.specialIn K (.builtin "object.__class__") "__get__" = some (some (.builtin "getset_descriptor.__get__"))
  htk : PySem.W.takesIn K (.builtin "object.__class__") = some true
  hm : PySem.W.mroIn K C (.type "object") = some true
  i1 : PySem.W.kitOne K (.ref C) (.type "int") = some false
  i2 : PySem.W.kitOne K (.type "int") (.ref C) = some false
abbrev fF (c : Int) (d : Addr) : List (Str × V) := [("constant", .int c), ("_coefficients", .ref d)]
/-- p is a form: constant c, coefficients m (none is nought) -/
structure FormAt (C : Addr) (H : Hp) (p : Addr) (c : Int) (m : Ps) : Prop where
  ex : ∃ dx d, H p = some (.ins C dx (fF c d)) ∧ DictAt H d m
  nz : ∀ q ∈ m, q.2 ≠ 0
theorem FormAt.same {C : Addr} {H H' : Hp} {p : Addr} {c : Int} {m : Ps} (h : FormAt C H p c m) (s : Same H H') : FormAt C H' p c m := by
  obtain ⟨⟨dx, d, h1, h2⟩, n⟩ := h
  exact ⟨⟨dx, d, s _ _ h1, h2.same s⟩, n⟩
theorem FormAt.stay {C b : Addr} {H H' : Hp} {p : Addr} {c : Int} {m : Ps} (h : FormAt C H p c m) (s : Stay b H H') (hb : ∃ xs, H b = some (.lst xs)) : FormAt C H' p c m := by
  obtain ⟨⟨dx, d, h1, h2⟩, n⟩ := h
  obtain ⟨xs, hb⟩ := hb
  exact ⟨⟨dx, d, s _ _ (ne_of h1 hb (by intro z; cases z)) h1, s _ _ (ne_of h2.at_ hb (by intro z; cases z)) h2.at_, h2.nd, h2.sym⟩, n⟩
def nzs (m : Ps) : Ps := m.filter fun q => decide (q.2 ≠ 0)
theorem nzs_co : ∀ (m : Ps) (s : Str), co (nzs m) s = co m s
  | [], _ => rfl
  | (x, v) :: m, s => by
    have ih := nzs_co m s
    unfold nzs at ih ⊢
    rw [List.filter_cons]
    by_cases e : v = 0
    · subst e
      rw [if_neg (by simp)]
      show _ = (if x = s then 0 else 0) + co m s
      rw [ih]
      simp
    · rw [if_pos (by simpa using e)]
      show (if x = s then v else 0) + _ = (if x = s then v else 0) + co m s
      rw [ih]
theorem nzs_sub (m : Ps) : (nzs m).Sublist m := List.filter_sublist
theorem nzs_nz {m : Ps} : ∀ q ∈ nzs m, q.2 ≠ 0 := fun q hq => of_decide_eq_true (List.mem_filter.mp hq).2
theorem nzs_take {m : Ps} {i : Nat} {q : Str × Int} (h : m[i]? = some q) : nzs (m.take (i + 1)) = nzs (m.take i) ++ if q.2 = 0 then [] else [q] := by
  unfold nzs
  rw [take_snoc h, List.filter_append]
  congr 1
  by_cases e : q.2 = 0
  · rw [if_pos e]
    simp [e]
  · rw [if_neg e]
    simp [e]
theorem take_new {m : Ps} {i : Nat} {q : Str × Int} (nd : (m.map (·.1)).Nodup) (h : m[i]? = some q) : q.1 ∉ (nzs (m.take i)).map (·.1) := by
  intro hq
  have h1 : q.1 ∈ (m.take i).map (·.1) := ((nzs_sub _).map _).subset hq
  have h2 : ((m.take (i + 1)).map (·.1)).Nodup := nd.sublist ((List.take_sublist _ _).map _)
  rw [take_snoc h, List.map_append, List.nodup_append] at h2
  exact h2.2.2 _ h1 q.1 (by simp) rfl
theorem keyed_kvI (m : Ps) : KwX.keyed (m.map fun p => (p.1, V.int p.2)) = kvI m := by
  unfold KwX.keyed kvI
  rw [List.map_map]
  rfl
def spInit (C : Addr) : Sp := fun vs H Q _ => ∃ (x d dx : Addr) (c : Int) (m : Ps), vs = [.ref x, .int c, .ref d] ∧ H x = some (.ins C dx []) ∧ DictAt H d m ∧ m.length < 64 ∧
  ∀ d' H', H d' = none → H' x = some (.ins C dx (fF c d')) → DictAt H' d' (nzs m) → Stay x H H' → Q .non H'
def spOf (C : Addr) : Sp := fun vs H Q _ => ∃ (c : Int) (l : Addr) (ps : Ps), vs = [.ref C, .int c, .ref l] ∧ PairsAt H l ps ∧ (∀ q ∈ ps, isSym q.1 = true) ∧ ps.length < 64 ∧
  ∀ p m H', H p = none → FormAt C H' p c m → m.length ≤ ps.length → (∀ s, co m s = co ps s) → Same H H' → Q (.ref p) H'
def spSymbols (C : Addr) : Sp := fun vs H Q _ => ∃ (p : Addr) (c : Int) (m : Ps), vs = [.ref p] ∧ FormAt C H p c m ∧ m.length < 64 ∧
  ∀ l ys H', ys.Perm (m.map (·.1)) → sortedS ys = true → H l = none → H' l = some (.lst (ys.map V.str)) → Same H H' → Q (.ref l) H'
def spFPairs (C : Addr) : Sp := fun vs H Q _ => ∃ (p : Addr) (c : Int) (m : Ps), vs = [.ref p] ∧ FormAt C H p c m ∧ m.length < 64 ∧
  ∀ l L H', PairsAt H' l L → Can L (co m) → (∀ q ∈ L, isSym q.1 = true) → L.length ≤ m.length → H l = none → Same H H' → Q (.ref l) H'
def spFWritten (C : Addr) : Sp := fun vs H Q _ => ∃ (p : Addr) (c : Int) (m : Ps), vs = [.ref p] ∧ FormAt C H p c m ∧ m.length < 64 ∧
  ∀ x L H', WrAt H' x c L → Can L (co m) → (∀ q ∈ L, isSym q.1 = true) → Same H H' → Q x H'
end Ow

set_option Elab.async false
set_option linter.all false
set_option maxRecDepth 100000
set_option maxHeartbeats 1000000
namespace Ow
open PySem PySem.Spec PyProof.Rows L2
section
variable {X : Cx} {k : Nat} {sp : Sp} {C : Addr}
theorem op_or {f : Value → Value → Sem Value} {r1 r2 : R2} (h1 : OpR X f r1) (h2 : OpR X f r2) : OpR X f (fun x y H Q => r1 x y H Q ∨ r2 x y H Q) :=
  fun pins s σ H x y v u Q I rx ry h => h.elim (h1 pins s σ H x y v u Q I rx ry) (h2 pins s σ H x y v u Q I rx ry)
theorem un_or {f : Value → Sem Value} {r1 r2 : V → Hp → VK → Prop} (h1 : UnR X f r1) (h2 : UnR X f r2) : UnR X f (fun x H Q => r1 x H Q ∨ r2 x H Q) :=
  fun pins s σ H x v Q I rx h => h.elim (h1 pins s σ H x v Q I rx) (h2 pins s σ H x v Q I rx)
/-- an operator of the class at C, with its promise -/
structure CalO (P : Program) (w : World) (K : PySem.W.Frag) (mg : Str → Option Value) (base : Heap) (C : Addr) (op : Operator) (k : Nat) (sp : Sp) : Prop where
  ex : ∃ (f : Addr) (fd : FuncData) (ps : List Str), OpX.OpC K C op f ∧ FnOk P w K mg base CX0 k f fd ps sp ∧ Binds K fd ps []
theorem op_calO {op : Operator} (c : CalO X.prog X.w X.K X.mg X.base C op k sp) (hr : Room k X.A) : OpR X (binaryOp op) (OpX.rOwn C sp E0) := by
  obtain ⟨f, fd, ps, O, F, hb⟩ := c.ex
  exact OpX.op_own O F hr hb pass0
structure CalR (P : Program) (w : World) (K : PySem.W.Frag) (mg : Str → Option Value) (base : Heap) (C : Addr) (op : Operator) (k : Nat) (sp : Sp) : Prop where
  ex : ∃ (f : Addr) (fd : FuncData) (ps : List Str), OpX.OpR' K C op f ∧ FnOk P w K mg base CX0 k f fd ps sp ∧ Binds K fd ps []
theorem op_calR {op : Operator} {id : String} (L : OpX.IntL op id) (c : CalR X.prog X.w X.K X.mg X.base C op k sp) (hr : Room k X.A) : OpR X (binaryOp op) (OpX.rRev C sp E0) := by
  obtain ⟨f, fd, ps, O, F, hb⟩ := c.ex
  exact OpX.op_rev L O F hr hb pass0
structure CalU (P : Program) (w : World) (K : PySem.W.Frag) (mg : Str → Option Value) (base : Heap) (C : Addr) (k : Nat) (sp : Sp) : Prop where
  ex : ∃ (f : Addr) (fd : FuncData) (ps : List Str), PySem.W.findIn K (.ref C) "__neg__" = some (some (.ref f)) ∧ PySem.W.isFn K (.ref f) = true ∧ FnOk P w K mg base CX0 k f fd ps sp ∧ Binds K fd ps []
def rNeg (C : Addr) (sp : Sp) : V → Hp → VK → Prop := fun x H Q => ∃ a dx fs, x = .ref a ∧ H a = some (.ins C dx fs) ∧ sp [x] H Q E0
theorem un_calU (c : CalU X.prog X.w X.K X.mg X.base C k sp) (hr : Room k X.A) : UnR X (unaryOp .USub) (rNeg C sp) := by
  obtain ⟨f, fd, ps, hs, hf, F, hb⟩ := c.ex
  exact OpX.un_own hs hf F hr hb pass0
end
/-! ### what stands at the right of an operator: an int, or a form -/
def OprAt (C : Addr) (H : Hp) (y : V) (k : Int) (g : Str → Int) (n : Nat) : Prop :=
  (y = .int k ∧ (∀ s, g s = 0) ∧ n = 0) ∨ ∃ a m, y = .ref a ∧ FormAt C H a k m ∧ (∀ s, g s = co m s) ∧ n = m.length
theorem OprAt.same {C : Addr} {H H' : Hp} {y : V} {k : Int} {g : Str → Int} {n : Nat} (h : OprAt C H y k g n) (s : Same H H') : OprAt C H' y k g n := by
  rcases h with h | ⟨a, m, h1, h2, h3⟩
  · exact .inl h
  · exact .inr ⟨a, m, h1, h2.same s, h3⟩
def MulOk (i j : Int) : Prop := CMul i j ∨ CMulW i j
theorem MulOk.neg (i : Int) : MulOk i (-1) := .inl (.inr ⟨by decide, by decide⟩)
/-- an operator on forms: what the new one is -/
def OutF (C : Addr) (H : Hp) (Q : VK) (c : Int) (g : Str → Int) (n : Nat) : Prop :=
  ∀ p m H', H p = none → FormAt C H' p c m → (∀ s, co m s = g s) → m.length ≤ n → Same H H' → Q (.ref p) H'
def spAdd (C : Addr) : Sp := fun vs H Q _ => ∃ (p : Addr) (c : Int) (m : Ps) (y : V) (k : Int) (g : Str → Int) (n : Nat), vs = [.ref p, y] ∧ FormAt C H p c m ∧ OprAt C H y k g n ∧ m.length < 30 ∧ n < 30 ∧
  OutF C H Q (c + k) (fun s => co m s + g s) (m.length + n)
def spSub (C : Addr) : Sp := fun vs H Q _ => ∃ (p : Addr) (c : Int) (m : Ps) (y : V) (k : Int) (g : Str → Int) (n : Nat), vs = [.ref p, y] ∧ FormAt C H p c m ∧ OprAt C H y k g n ∧ m.length < 30 ∧ n < 30 ∧
  OutF C H Q (c - k) (fun s => co m s - g s) (m.length + n)
def spRsub (C : Addr) : Sp := fun vs H Q _ => ∃ (p : Addr) (c : Int) (m : Ps) (k : Int), vs = [.ref p, .int k] ∧ FormAt C H p c m ∧ m.length < 30 ∧ OutF C H Q (k - c) (fun s => -co m s) m.length
def spRadd (C : Addr) : Sp := fun vs H Q _ => ∃ (p : Addr) (c : Int) (m : Ps) (k : Int), vs = [.ref p, .int k] ∧ FormAt C H p c m ∧ m.length < 30 ∧ OutF C H Q (c + k) (fun s => co m s) m.length
def spNeg (C : Addr) : Sp := fun vs H Q _ => ∃ (p : Addr) (c : Int) (m : Ps), vs = [.ref p] ∧ FormAt C H p c m ∧ m.length < 30 ∧ OutF C H Q (-c) (fun s => -co m s) m.length
def spMul (C : Addr) : Sp := fun vs H Q _ => ∃ (p : Addr) (c : Int) (m : Ps) (k : Int), vs = [.ref p, .int k] ∧ FormAt C H p c m ∧ m.length < 60 ∧ MulOk c k ∧ (∀ q ∈ m, MulOk q.2 k) ∧ OutF C H Q (c * k) (fun s => co m s * k) m.length
def spTimes : Sp := fun vs H Q _ => ∃ (a : Addr) (m : Ps) (k : Int), vs = [.ref a, .int k] ∧ DictAt H a m ∧ m.length < 30 ∧ (∀ q ∈ m, MulOk k q.2) ∧
  ∀ d m' H', H d = none → DictAt H' d m' → m'.length ≤ m.length → (∀ s, co m' s = k * co m s) → Same H H' → Q (.ref d) H'
theorem co_mulL (L : Ps) (k : Int) (s : Str) : co (L.map fun q => (q.1, k * q.2)) s = k * co L s := by
  induction L with
  | nil => exact (Int.mul_zero k).symm
  | cons q L ih =>
    show (if q.1 = s then k * q.2 else 0) + co (L.map fun q => (q.1, k * q.2)) s = k * ((if q.1 = s then q.2 else 0) + co L s)
    rw [ih, Int.mul_add]
    by_cases e : q.1 = s
    · rw [if_pos e, if_pos e]
    · rw [if_neg e, if_neg e, Int.mul_zero]
theorem co_mul (L : Ps) (k : Int) (s : Str) : co (L.map fun q => (q.1, q.2 * k)) s = co L s * k := by
  induction L with
  | nil => exact (Int.zero_mul k).symm
  | cons q L ih =>
    show (if q.1 = s then q.2 * k else 0) + co (L.map fun q => (q.1, q.2 * k)) s = ((if q.1 = s then q.2 else 0) + co L s) * k
    rw [ih, Int.add_mul]
    by_cases e : q.1 = s
    · rw [if_pos e, if_pos e]
    · rw [if_neg e, if_neg e, Int.zero_mul]
theorem form_ty {K : PySem.W.Frag} {C : Addr} {H : Hp} {p : Addr} {c : Int} {m : Ps} (R : FormK K C) (h : FormAt C H p c m) : TyX K H (.ref p) (.ref C) := by
  obtain ⟨⟨dx, d, h1, _⟩, _⟩ := h
  exact .base (.ins h1 R.cl R.ha R.hn R.htk R.hm)
theorem kit_same {K : PySem.W.Frag} (t : Value) : PySem.W.kitOne K t t = some true := by
  unfold PySem.W.kitOne
  rw [if_pos (beq_self_eq_true t)]
/-- isinstance of an int and of a form -/
theorem isi_int {K : PySem.W.Frag} {H : Hp} {Q : VK} {i : Int} (h : Q (.bl true) H) : rIsi K [.int i, .ty "int"] H Q := ⟨_, _, _, _, true, rfl, .ty "int", .base (.int i), kit_same _, h⟩
theorem isi_int0 {K : PySem.W.Frag} {C : Addr} {H : Hp} {Q : VK} {i : Int} (R : FormK K C) (h : Q (.bl false) H) : rIsi K [.int i, .ref C] H Q := ⟨_, _, _, _, false, rfl, .own C, .base (.int i), R.i2, h⟩
theorem isi_form {K : PySem.W.Frag} {C : Addr} {H : Hp} {Q : VK} {p : Addr} {c : Int} {m : Ps} (R : FormK K C) (hF : FormAt C H p c m) (h : Q (.bl true) H) : rIsi K [.ref p, .ref C] H Q := ⟨_, _, _, _, true, rfl, .own C, form_ty R hF, kit_same _, h⟩
theorem isi_form0 {K : PySem.W.Frag} {C : Addr} {H : Hp} {Q : VK} {p : Addr} {c : Int} {m : Ps} (R : FormK K C) (hF : FormAt C H p c m) (h : Q (.bl false) H) : rIsi K [.ref p, .ty "int"] H Q := ⟨_, _, _, _, false, rfl, .ty "int", form_ty R hF, R.i1, h⟩
theorem paired_app {α β : Type} {F : α → β → Prop} {l2 : List α} {m2 : List β} (h : Paired F l2 m2) : ∀ {l : List α} {m : List β}, Paired F l m → Paired F (l ++ l2) (m ++ m2)
  | _, _, .nil => h
  | _, _, .cons g r => .cons g (paired_app h r)
theorem none_back {H H' : Hp} {a : Addr} (s : Same H H') (h : H' a = none) : H a = none := by
  cases q : H a with
  | none => rfl
  | some o => rw [s _ _ q] at h; cases h
end Ow

set_option Elab.async false
set_option linter.all false
set_option maxRecDepth 100000
set_option maxHeartbeats 1000000
namespace Ow
open PySem PySem.Spec PyProof.Rows L2
theorem same_stay {b : Addr} {H H1 H2 : Hp} (s : Same H H1) (hb : H b = none) (t : Stay b H1 H2) : Same H H2 := fun a o e => t a o (ne_of_none e hb) (s a o e)
theorem seq_cut {a b : TS} {D : Ends} {σ : L2.St} {H : Hp} (R : Hp → Prop) (fin : ∀ H', R H' → b D σ H') (main : (∀ H', R H' → b D σ H') → tSeq a b D σ H) : tSeq a b D σ H := main fin
def spLaw (K : PySem.W.Frag) : Sp := fun vs H Q _ => ∃ (a : Addr) (ns : List Int), vs = [.ref a] ∧ SqL K H a (ns.map V.int) ∧ ns.length ≤ 63 ∧ ∀ H', Q (.bl true) H'
/-- two written tuples are one -/
theorem wr_one {L L' : Ps} {g g' : Str → Int} {c c' : Int} (c1 : Can L g) (c2 : Can L' g') (e : ∀ s, g s = g' s) (ec : c = c') (hS : ∀ q ∈ L, isSym q.1 = true) : PyData.eqv (datW c L) (datW c' L') = true := by
  rw [← can_one c1 c2 e, ← ec]
  exact eqvW c hS
theorem can_nil {L : Ps} {g : Str → Int} (c : Can L g) (h : ∀ s, g s = 0) : L = [] := by
  cases L with
  | nil => rfl
  | cons q L => exact absurd (h q.1) ((can_mem c q.1).mp (by simp))
theorem wr_nil {L : Ps} {g : Str → Int} {c : Int} (c1 : Can L g) (h : ∀ s, g s = 0) (ec : c = 0) : PyData.eqv (datW c L) (.tuple [.int 0, .tuple []]) = true := by
  rw [can_nil c1 h, ec]
  rfl
theorem PairsAt.over {H : Hp} {l x : Addr} {ps : Ps} {xs ys : List V} (h : PairsAt H l ps) (hx : H x = some (.lst xs)) (ne : l ≠ x) : PairsAt (L2.upd H x (.lst ys)) l ps := by
  obtain ⟨zs, hz, hp⟩ := h
  refine ⟨zs, (upd_ne ne).trans hz, paired_map (fun y q hq => ?_) hp⟩
  obtain ⟨u, rfl, hu⟩ := hq
  exact ⟨u, rfl, (upd_ne (ne_of hu hx (by intro z; cases z))).trans hu⟩
theorem pairs_copy {H : Hp} {l : Addr} {ps : Ps} {xs : List V} (hp : Paired (PairAt H) xs ps) (hl : H l = none) : PairsAt (upd H l (.lst xs)) l ps :=
  ⟨xs, upd_same, paired_map (fun _ _ q => q.same (same_new (fun _ _ e => e) hl)) hp⟩
end Ow

set_option Elab.async false
set_option linter.all false
set_option maxRecDepth 100000
set_option maxHeartbeats 1000000
namespace Ow
open PySem PySem.Spec PyProof.Rows L2
section
variable {X : Cx} {k : Nat} {sp : Sp} {C : Addr}
structure CalI (P : Program) (w : World) (K : PySem.W.Frag) (mg : Str → Option Value) (base : Heap) (C : Addr) (op : Operator) (k : Nat) (sp : Sp) : Prop where
  ex : ∃ (f : Addr) (fd : FuncData) (ps : List Str), OpX.OpC K C op f ∧ OpX.NoI K C op ∧ FnOk P w K mg base CX0 k f fd ps sp ∧ Binds K fd ps []
theorem op_calI {op : Operator} (c : CalI X.prog X.w X.K X.mg X.base C op k sp) (hr : Room k X.A) : PIp X op (OpX.rOwn C sp E0) := by
  obtain ⟨f, fd, ps, O, N, F, hb⟩ := c.ex
  exact OpX.op_iown O N F hr hb pass0
end
theorem wr_nilK {L : Ps} {g : Str → Int} {c k : Int} (c1 : Can L g) (h : ∀ s, g s = 0) (ec : c = k) : PyData.eqv (datW c L) (.tuple [.int k, .tuple []]) = true := by
  rw [can_nil c1 h, ec]
  show ((k == k) && (PyData.eqvAll [] [] && true)) = true
  rw [beq_self_eq_true]
  rfl
theorem co_bound {B : Nat} : ∀ {ps : Ps}, (∀ q ∈ ps, q.2.natAbs ≤ B) → ∀ s, (co ps s).natAbs ≤ ps.length * B
  | [], _, _ => Nat.zero_le _
  | q :: ps, h, s => by
    have h1 := co_bound (fun r hr => h r (List.mem_cons_of_mem _ hr)) s
    have h2 := h q List.mem_cons_self
    show ((if q.1 = s then q.2 else 0) + co ps s).natAbs ≤ (ps.length + 1) * B
    have h3 := Int.natAbs_add_le (if q.1 = s then q.2 else 0) (co ps s)
    have h4 : (if q.1 = s then q.2 else 0).natAbs ≤ B := by
      by_cases e : q.1 = s
      · rw [if_pos e]
        exact h2
      · rw [if_neg e]
        exact Nat.zero_le _
    rw [Nat.add_mul, Nat.one_mul]
    omega
theorem log_small {n : Nat} (h : n < 2 ^ 400) : n.log2 ≤ 400 := by
  rcases Nat.eq_zero_or_pos n with z | z
  · rw [z]
    decide
  · exact Nat.le_of_lt ((Nat.log2_lt (Nat.pos_iff_ne_zero.mp z)).mpr h)
theorem MulOk.small {i j : Int} (hi : i.natAbs < 2 ^ 400) (hj : j.natAbs < 2 ^ 400) : MulOk i j := by
  have h1 := log_small hi
  have h2 := log_small hj
  exact .inr (show i.natAbs.log2 + j.natAbs.log2 < 1000000 by omega)
theorem MulOk.left {i j : Int} (hi : -(2 ^ 64) < i ∧ i < 2 ^ 64) : MulOk i j := .inl (.inl hi)
theorem MulOk.right {i j : Int} (hj : -(2 ^ 64) < j ∧ j < 2 ^ 64) : MulOk i j := .inl (.inr hj)
/-- a form's own coefficients are those of what it was made of -/
theorem form_mem {m ps : Ps} (nd : (m.map (·.1)).Nodup) (h : ∀ s, co m s = co ps s) {q : Str × Int} (hq : q ∈ m) : q.2 = co ps q.1 := by
  rw [← h, co_in nd hq]
end Ow

set_option Elab.async false
set_option linter.all false
set_option maxRecDepth 100000
set_option maxHeartbeats 1000000
namespace OpX
open PySem PySem.Spec PyProof.Rows L2
/-- a method that an instance's own syntax reaches: o[i], o(x), .. -/
structure CalG (P : Program) (w : World) (K : PySem.W.Frag) (mg : Str → Option Value) (base : Heap) (C : Addr) (m : Str) (k : Nat) (sp : Sp) : Prop where
  ex : ∃ (f : Addr) (fd : FuncData) (ps : List Str), PySem.W.findIn K (.ref C) m = some (some (.ref f)) ∧ PySem.W.isFn K (.ref f) = true ∧ PySem.W.fnIn K f = true ∧ FnOk P w K mg base CX0 k f fd ps sp ∧ Binds K fd ps []
section
variable {X : Cx} {k : Nat} {sp : Sp} {C : Addr} {o i e : Expr} {to ti te : TE} {pos : Pos}
theorem run_code {CX : CXT} {f : Addr} {fd : FuncData} {ps : List Str} {E : XK} {pins : List (Addr × Obj)} {σ : L2.St} {H : Hp} {s : Shared} {Q : VK} {us : List Value} {vs : List V} (F : FnOk X.prog X.w X.K X.mg X.base CX k f fd ps sp) (hr : Room k X.A) (hb : Binds X.K fd ps [])
    (hx : Passes CX X E) (I : Inv X pins σ H s) (r : Vals vs us) (h : sp vs H Q E) : codeAny (model X.prog X.w) X.A (.call (.ref f) ⟨us, []⟩) (wants (EP X pins σ Q) X.xe) s := by
  have hl : us.length = ps.length := by rw [← r.length]; exact F.len _ _ _ _ h
  have hb' := hb s us I.kIn (by rw [List.append_nil]; exact hl)
  rw [List.append_nil] at hb'
  refine codeAny_mono (F.run X.A X.stack s H ⟨us, []⟩ us vs Q E hr I.env0 hb' r h) fun r s' hq => ?_
  cases r with
  | error e => exact hx pins σ H s e s' I hq
  | ok fl =>
    cases fl with
    | ret u => exact I.after hq
    | next => exact False.elim hq
    | brk => exact False.elim hq
    | cont => exact False.elim hq
/-- .. run one builtin deeper -/
theorem run_in1 {CX : CXT} {f : Addr} {fd : FuncData} {ps : List Str} {E : XK} {pins : List (Addr × Obj)} {σ : L2.St} {H : Hp} {s : Shared} {Q : VK} {us : List Value} {vs : List V} (F : FnOk X.prog X.w X.K X.mg X.base CX k f fd ps sp) (hr : Room (k + 1) X.A) (hb : Binds X.K fd ps [])
    (hx : Passes CX X E) (I : Inv X pins σ H s) (r : Vals vs us) (h : sp vs H Q E) : wpAny (model X.prog X.w) X.A.in1 (call (.ref f) us) (EP X pins σ Q) X.xe s := by
  have hl : us.length = ps.length := by rw [← r.length]; exact F.len _ _ _ _ h
  have hb' := hb s us I.kIn (by rw [List.append_nil]; exact hl)
  rw [List.append_nil] at hb'
  refine wpAny_call (codeAny_mono (F.run X.A.in1 X.stack s H ⟨us, []⟩ us vs Q E hr.in1 I.env0.in1 hb' r h) fun r s' hq => ?_)
  cases r with
  | error e => exact hx pins σ H s e s' I hq
  | ok fl =>
    cases fl with
    | ret u => exact I.after hq
    | next => exact False.elim hq
    | brk => exact False.elim hq
    | cont => exact False.elim hq
def tGetC (C : Addr) (sp : Sp) (to ti : TE) : TE := fun σ H Q => to σ H fun x H1 => ti σ H1 fun y H2 => ∃ a dx fs, x = .ref a ∧ H2 a = some (.ins C dx fs) ∧ sp [x, y] H2 Q E0
theorem pe_getC (c : CalG X.prog X.w X.K X.mg X.base C "__getitem__" k sp) (hr : Room (k + 1) X.A) (ho : PE X o to) (hi : PE X i ti)
    (hsl : ∀ a y, subscripted i true (.ref a) y = runValue (.builtin "lifetime.subscript" ⟨[.ref a, y], []⟩) := by intro _ _; with_unfolding_all rfl) : PE X (.Subscript o i pos) (tGetC C sp to ti) := by
  obtain ⟨f, fd, ps, hs, hf, hfn, F, hb⟩ := c.ex
  refine ⟨fun pins s σ H Q I h => ?_⟩
  refine Subscript_ (thn (ho.run pins s σ H _ I h) fun v s1 ⟨x, H1, I1, rx, q1⟩ => thn (hi.run pins s1 σ H1 _ I1 q1) fun u s2 ⟨y, H2, I2, ry, a, dx, fs, ex, ea, q2⟩ => ?_)
  subst ex
  obtain rfl : v = Value.ref a := rx
  obtain ⟨mA, J, _⟩ := ins_get I2.hok ea
  obtain ⟨od, J, _⟩ := J.look
  obtain ⟨m, hF⟩ := I2.fr
  exact PySem.W.sub_K hF I2.ok.mod.kin J hs hfn hf (run_in1 (vs := [.ref a, y]) F hr hb pass0 I2 (.cons rfl (.cons ry .nil)) q2) (hsl a u)
theorem callWith_inst {M : Model} {A : Around} {E : Value → Shared → Prop} {s : Shared} {x : Addr} {first : List Value} {Q : Value → Shared → Prop} {args : List (Bool × Sem Value)} (hp : (args.any (·.1) || ([] : List (Option Str × Sem Value)).any (·.1.isNone)) = false)
    (h : wpAny M A (evalArgs (.ref x) true args []) (fun a s1 => (∃ ox, s1.heap.get? x = some ox ∧ ox.data = .plain) ∧ wpAny M A (call (.ref x) (first ++ a.pos) a.kw) Q E s1) E s) : wpAny M A (callWith pos (.ref x) first args []) Q E s := by
  unfold callWith
  refine wpAny_bind (wpAny_holding (wpAny_mono h (fun a s1 h1 => wpAny_bind (wpAny_standAt ?_)) fun _ _ y => y))
  obtain ⟨⟨ox, e1, e2⟩, hc⟩ := h1
  have kp : PySem.W.Looks M s1.heap (keeperOf (.ref x)) .caller := by
    refine (PySem.W.Looks.ld (part := none) e1).andThen ?_
    simp only [e2]
    exact .now
  simp only [hp]
  refine wpAny_bind (kp.here ?_)
  exact wpAny_bind (wpAny_mono (wpAny_operateT hc) (fun r s2 hr => wpAny_bind (wpAny_holding (wpAny_point (wpAny_pure hr)))) fun _ _ y => y)
def tCallC (C : Addr) (sp : Sp) (to : TE) (t : TA) : TE := fun σ H Q => to σ H fun x H1 => ∃ a dx fs, x = .ref a ∧ H1 a = some (.ins C dx fs) ∧ t σ H1 fun vs H2 => ∃ dx' fs', H2 a = some (.ins C dx' fs') ∧ sp (x :: vs) H2 Q E0
theorem pe_callC {es : List Expr} {t : TA} (c : CalG X.prog X.w X.K X.mg X.base C "__call__" k sp) (hr : Room k X.A) (ho : PE X o to) (ha : PA X (e :: es) t) (hst : starEach (e :: es) X.env = (false, eval e X.env) :: starEach es X.env := by rfl) (hpl : (backTo pos (starEach es X.env)).any (·.1) = false := by rfl)
    (hc : eval (.Call o (e :: es) [] pos) X.env = (do
      let f ← eval o X.env
      callWith pos f [] (backTo pos (starEach (e :: es) X.env)) (backToKw pos (keywordEach [] X.env))) := by rfl) :
    PE X (.Call o (e :: es) [] pos) (tCallC C sp to t) := by
  obtain ⟨f, fd, ps, hs, hf, hfn, F, hb⟩ := c.ex
  refine ⟨fun pins s σ H Q I h => ?_⟩
  refine Call_ (thn (ho.run pins s σ H _ I h) fun v s1 ⟨x, H1, I1, rx, a, dx, fs, ex, ea, q1⟩ => ?_) hc
  subst ex
  obtain rfl : v = Value.ref a := rx
  obtain ⟨mA, J, _⟩ := ins_get I1.hok ea
  obtain ⟨od, J, _⟩ := J.look
  refine callWith_inst (by rw [hst]; show ((false || (backTo pos (starEach es X.env)).any (·.1)) || false) = false; rw [hpl]; rfl) ?_
  have go := ha.run pos pins s1 σ H1 _ I1 q1
  rw [hst] at go ⊢
  refine Calls.evalArgs_plain (thn go fun us s2 ⟨vs, H2, I2, rv, dx', fs', ea', q2⟩ => ?_)
  obtain ⟨mA', J', _⟩ := ins_get I2.hok ea'
  have hat := J'.obj
  obtain ⟨od', J', _⟩ := J'.look
  refine ⟨⟨_, hat, rfl⟩, wpAny_call (PySem.W.kco_code (a := ⟨us, []⟩) I2.kIn J' rfl hs hf hfn ?_)⟩
  exact run_code F hr hb pass0 I2 (us := .ref a :: us) (vs := .ref a :: vs) (.cons rfl rv) q2
end
end OpX

set_option Elab.async false
set_option linter.all false
set_option maxRecDepth 100000
set_option maxHeartbeats 1000000
namespace Ow
open PySem PySem.Spec PyProof.Rows L2
/-! ### the value of a list of pairs -/
def ev : Ps → (Str → Int) → Int
  | [], _ => 0
  | (x, n) :: r, v => n * v x + ev r v
def offs (a : Ps) (x : Str) : Ps := a.filter fun q => decide (q.1 ≠ x)
theorem offs_cons_eq (q : Str × Int) (a : Ps) (x : Str) (e : q.1 = x) : offs (q :: a) x = offs a x := by
  unfold offs
  rw [List.filter_cons, if_neg (by simp [e])]
theorem offs_cons_ne (q : Str × Int) (a : Ps) (x : Str) (e : q.1 ≠ x) : offs (q :: a) x = q :: offs a x := by
  unfold offs
  rw [List.filter_cons, if_pos (by simp [e])]
theorem ev_app (v : Str → Int) : ∀ a b : Ps, ev (a ++ b) v = ev a v + ev b v
  | [], b => (Int.zero_add _).symm
  | (x, n) :: a, b => by
    show n * v x + ev (a ++ b) v = n * v x + ev a v + ev b v
    rw [ev_app v a b, Int.add_assoc]
theorem ev_mul (v : Str → Int) (k : Int) : ∀ a : Ps, ev (a.map fun q => (q.1, k * q.2)) v = k * ev a v
  | [] => (Int.mul_zero k).symm
  | (x, n) :: a => by
    show k * n * v x + ev (a.map fun q => (q.1, k * q.2)) v = k * (n * v x + ev a v)
    rw [ev_mul v k a, Int.mul_add, Int.mul_assoc]
theorem ev_split (v : Str → Int) (x : Str) : ∀ a : Ps, ev a v = co a x * v x + ev (offs a x) v
  | [] => by
    show (0 : Int) = 0 * v x + 0
    omega
  | (y, n) :: a => by
    have ih := ev_split v x a
    show n * v y + ev a v = ((if y = x then n else 0) + co a x) * v x + ev (offs ((y, n) :: a) x) v
    rw [ih, Int.add_mul]
    by_cases e : y = x
    · rw [offs_cons_eq (y, n) a x e, if_pos e, e]
      omega
    · rw [offs_cons_ne (y, n) a x e, if_neg e, Int.zero_mul]
      show _ = 0 + co a x * v x + (n * v y + ev (offs a x) v)
      omega
theorem co_offs (x s : Str) : ∀ a : Ps, co (offs a x) s = if s = x then 0 else co a s
  | [] => by
    show (0 : Int) = _
    split <;> rfl
  | (y, n) :: a => by
    have ih := co_offs x s a
    show _ = if s = x then 0 else (if y = s then n else 0) + co a s
    by_cases e : y = x
    · rw [offs_cons_eq (y, n) a x e, ih]
      by_cases e2 : s = x
      · rw [if_pos e2, if_pos e2]
      · rw [if_neg e2, if_neg e2, if_neg (fun z : y = s => e2 (z.symm.trans e)), Int.zero_add]
    · rw [offs_cons_ne (y, n) a x e]
      show (if y = s then n else 0) + co (offs a x) s = _
      rw [ih]
      by_cases e2 : s = x
      · rw [if_pos e2, if_pos e2, if_neg (fun z => e (z.trans e2))]
        rfl
      · rw [if_neg e2, if_neg e2]
theorem ev_zero (v : Str → Int) : ∀ (n : Nat) (a : Ps), a.length ≤ n → (∀ s, co a s = 0) → ev a v = 0
  | _, [], _, _ => rfl
  | 0, _ :: _, h, _ => absurd h (by simp)
  | n + 1, (x, k) :: a, h, z => by
    rw [ev_split v x ((x, k) :: a), z x, Int.zero_mul, Int.zero_add, offs_cons_eq (x, k) a x rfl]
    refine ev_zero v n _ (Nat.le_trans (List.length_filter_le _ _) (by simpa using h)) fun s => ?_
    rw [co_offs]
    by_cases e : s = x
    · rw [if_pos e]
    · rw [if_neg e]
      have := z s
      show co a s = 0
      have e3 : co ((x, k) :: a) s = (if x = s then k else 0) + co a s := rfl
      rw [e3, if_neg (fun q => e q.symm), Int.zero_add] at this
      exact this
theorem ev_co {a b : Ps} (v : Str → Int) (h : ∀ s, co a s = co b s) : ev a v = ev b v := by
  have z := ev_zero v _ (a ++ b.map fun q => (q.1, -1 * q.2)) (Nat.le_refl _) fun s => by
    rw [co_append, co_mulL, h s]
    omega
  rw [ev_app, ev_mul] at z
  omega
theorem ev_congr {v v' : Str → Int} : ∀ {a : Ps}, (∀ q ∈ a, v q.1 = v' q.1) → ev a v = ev a v'
  | [], _ => rfl
  | (x, n) :: a, h => by
    show n * v x + ev a v = n * v' x + ev a v'
    rw [h (x, n) List.mem_cons_self, ev_congr fun q hq => h q (List.mem_cons_of_mem _ hq)]
theorem ev_snoc (v : Str → Int) (a : Ps) (q : Str × Int) : ev (a ++ [q]) v = ev a v + q.2 * v q.1 := by
  rw [ev_app]
  show ev a v + (q.2 * v q.1 + 0) = _
  omega
theorem ev_sum (v : Str → Int) : ∀ a : Ps, (a.map fun q => q.2 * v q.1).sum = ev a v
  | [] => rfl
  | (x, n) :: a => by
    rw [List.map_cons, List.sum_cons, ev_sum v a]
    rfl
/-- a coefficient changed at x -/
theorem ev_at {a : Ps} {v : Str → Int} {x : Str} {z : Int} : ev a (fun s => if s = x then z else v s) = co a x * z + ev (offs a x) v := by
  rw [ev_split _ x a]
  show co a x * (if x = x then z else v x) + _ = _
  rw [if_pos rfl]
  congr 1
  refine ev_congr fun q hq => ?_
  have := of_decide_eq_true (List.mem_filter.mp hq).2
  show (if q.1 = x then z else v q.1) = v q.1
  rw [if_neg this]
theorem offs_snoc (a : Ps) (q : Str × Int) (x : Str) : offs (a ++ [q]) x = offs a x ++ if q.1 = x then [] else [q] := by
  unfold offs
  rw [List.filter_append]
  congr 1
  by_cases e : q.1 = x
  · rw [if_pos e]
    simp [e]
  · rw [if_neg e]
    simp [e]
theorem ix_tupK {X : Cx} {K : PySem.W.Frag} (hK : X.K = K) : IxR X (rIxT K) := by
  subst hK
  exact ix_tup
def spGet (C : Addr) : Sp := fun vs H Q _ => ∃ (p : Addr) (c : Int) (m : Ps) (x : Str), vs = [.ref p, .str x] ∧ FormAt C H p c m ∧ Q (.int (co m x)) H
def spCall (C : Addr) : Sp := fun vs H Q _ => ∃ (p d : Addr) (c : Int) (m M : Ps), vs = [.ref p, .ref d] ∧ FormAt C H p c m ∧ DictAt H d M ∧ m.length < 64 ∧ (∀ s, MulOk (co m s) (co M s)) ∧ ∀ H', Same H H' → Q (.int (c + ev m (co M))) H'
def spPut (C : Addr) : Sp := fun vs H Q _ => ∃ (p o : Addr) (c c2 : Int) (m m2 : Ps) (x : Str), vs = [.ref p, .str x, .ref o] ∧ FormAt C H p c m ∧ FormAt C H o c2 m2 ∧ m.length < 15 ∧ m2.length < 15 ∧ MulOk c2 (co m x) ∧ (∀ q ∈ m2, MulOk q.2 (co m x)) ∧
  OutF C H Q (c + c2 * co m x) (fun s => (if s = x then 0 else co m s) + co m2 s * co m x) (m.length + m2.length)
def spValues : Sp := fun vs H Q _ => ∃ (b l : Addr) (n : Nat) (ys : List Str), vs = [.ref b, .ref l] ∧ BagAt H b n ∧ n < 700000000 ∧ H l = some (.lst (ys.map V.str)) ∧ l ≠ b ∧ (∀ y ∈ ys, isSym y = true) ∧ ys.length < 64 ∧
  ∀ d M H', H d = none → d ≠ b → DictAt H' d M → M.length < 80 → (∀ q ∈ M, q.2.natAbs ≤ 10 ^ 25) → BagAt H' b (n + 2000) → Stay b H H' → Q (.ref d) H'
def spValue : Sp := fun vs H Q _ => ∃ (c : Int) (a d : Addr) (m M : Ps), vs = [.int c, .ref a, .ref d] ∧ a ≠ d ∧ DictAt H a m ∧ DictAt H d M ∧ (∀ s, MulOk (co m s) (co M s)) ∧ ∀ H', Same H H' → Q (.int (c + ev m (co M))) H'
end Ow
namespace Ow
open PySem PySem.Spec PyProof.Rows L2
theorem putS_vals {s : Str} {v : Int} : ∀ {m : Ps}, ∀ q ∈ putS m s v, q ∈ m ∨ q.2 = v
  | [], q, hq => by
    cases List.mem_singleton.mp hq
    exact .inr rfl
  | (x, u) :: r, q, hq => by
    unfold putS at hq
    by_cases e : x = s
    · rw [if_pos e] at hq
      rcases List.mem_cons.mp hq with rfl | hq
      · exact .inr rfl
      · exact .inl (List.mem_cons_of_mem _ hq)
    · rw [if_neg e] at hq
      rcases List.mem_cons.mp hq with rfl | hq
      · exact .inl List.mem_cons_self
      · rcases putS_vals q hq with h | h
        · exact .inl (List.mem_cons_of_mem _ h)
        · exact .inr h
theorem kvI_none : ∀ {m : Ps} {s : Str}, s ∉ m.map (·.1) → valV (kvI m) (Sum.inr s) = none
  | [], _, _ => rfl
  | (x, v) :: m, s, h => by
    have h1 : ¬ x = s := fun e => h (by simp [e])
    have h2 := kvI_none (m := m) (s := s) fun e => h (by rw [List.map_cons]; exact List.mem_cons_of_mem _ e)
    unfold valV kvI at h2 ⊢
    rw [List.map_cons]
    simp [h1]
    simpa using h2
theorem kvI_getD (m : Ps) (s : Str) (z : Int) (nd : (m.map (·.1)).Nodup) : ∃ u : Int, (valV (kvI m) (Sum.inr s)).getD (V.int z) = V.int u ∧ (u = z ∨ (s, u) ∈ m) := by
  by_cases h : s ∈ m.map (·.1)
  · obtain ⟨q, hq, rfl⟩ := List.mem_map.mp h
    refine ⟨co m q.1, by rw [kvI_get nd h]; rfl, .inr ?_⟩
    rw [co_in nd hq]
    exact hq
  · exact ⟨z, by rw [kvI_none h]; rfl, .inl rfl⟩
theorem DictAt.stay {H H' : Hp} {b d : Addr} {m : Ps} (h : DictAt H d m) (s : Stay b H H') (ne : d ≠ b) : DictAt H' d m := ⟨s _ _ ne h.at_, h.nd, h.sym⟩
end Ow
namespace Ow
open PySem PySem.Spec PyProof.Rows L2
theorem seq_cutS {a b : TS} {D : Ends} {σ : L2.St} {H : Hp} (R : L2.St → Hp → Prop) (fin : ∀ σ' H', R σ' H' → b D σ' H') (main : (∀ σ' H', R σ' H' → b D σ' H') → tSeq a b D σ H) : tSeq a b D σ H := main fin
theorem ne_ref {H : Hp} {a b : Addr} {o : HO} (h : H a = some o) (n : H b = none) : a ≠ b := fun z => by rw [z, n] at h; cases h
theorem offs_nd {m : Ps} (x : Str) (h : (m.map (·.1)).Nodup) : ((offs m x).map (·.1)).Nodup := h.sublist (List.filter_sublist.map _)
theorem offs_take {m : Ps} {i : Nat} {x : Str} {q : Str × Int} (h : m[i]? = some q) : offs (m.take (i + 1)) x = offs (m.take i) x ++ if q.1 = x then [] else [q] := by
  rw [take_snoc h, offs_snoc]
theorem offs_len (m : Ps) (x : Str) : (offs m x).length ≤ m.length := List.length_filter_le _ _
end Ow
namespace Ow
open PySem PySem.Spec PyProof.Rows L2
theorem co_mem_bound {m : Ps} {B : Nat} (nd : (m.map (·.1)).Nodup) (h : ∀ q ∈ m, q.2.natAbs ≤ B) (s : Str) : (co m s).natAbs ≤ B := by
  by_cases e : s ∈ m.map (·.1)
  · obtain ⟨q, hq, rfl⟩ := List.mem_map.mp e
    rw [co_in nd hq]
    exact h q hq
  · rw [co_out e]
    exact Nat.zero_le _
theorem ev_bound {v : Str → Int} {A B : Nat} (hv : ∀ s, (v s).natAbs ≤ B) : ∀ {m : Ps}, (∀ q ∈ m, q.2.natAbs ≤ A) → (ev m v).natAbs ≤ m.length * (A * B)
  | [], _ => Nat.zero_le _
  | (x, n) :: m, h => by
    have h1 := ev_bound hv (m := m) fun q hq => h q (List.mem_cons_of_mem _ hq)
    have h2 : (n * v x).natAbs ≤ A * B := by
      rw [Int.natAbs_mul]
      exact Nat.mul_le_mul (h (x, n) List.mem_cons_self) (hv x)
    have h3 := Int.natAbs_add_le (n * v x) (ev m v)
    show (n * v x + ev m v).natAbs ≤ (m.length + 1) * (A * B)
    rw [Nat.add_mul, Nat.one_mul]
    omega
theorem put_value {M1 M2 mT I : Ps} {V : Str → Int} {x : Str} {n1 n2 zz : Int} (hT : ∀ s, co mT s = (if s = x then 0 else co M1 s) + co M2 s * co M1 x) (hI : ∀ s, co I s = if s = x then zz else V s) (hz : zz = n2 + ev M2 V) :
    n1 + n2 * co M1 x + ev mT V = n1 + ev M1 (co I) := by
  have e1 : ev M1 (co I) = co M1 x * zz + ev (offs M1 x) V := by
    rw [show co I = fun s => if s = x then zz else V s from funext hI]
    exact ev_at
  have e2 : ev mT V = ev (offs M1 x) V + co M1 x * ev M2 V := by
    rw [← ev_mul, ← ev_app]
    refine ev_co V fun s => ?_
    rw [hT, co_append, co_mulL, co_offs, Int.mul_comm (co M2 s)]
  rw [e1, e2, hz, Int.mul_add, Int.mul_comm n2]
  omega
theorem mul_bound {a b : Int} {A B : Nat} (ha : a.natAbs ≤ A) (hb : b.natAbs ≤ B) : (a * b).natAbs ≤ A * B := by
  rw [Int.natAbs_mul]
  exact Nat.mul_le_mul ha hb
end Ow

set_option Elab.async false
set_option linter.all false
set_option maxRecDepth 100000
set_option maxHeartbeats 1000000
namespace OpX
open PySem PySem.Spec PyProof.Rows L2
/-- what may stand at the right of == of an instance of C -/
def EqY (C : Addr) (H : Hp) (y : V) : Prop := (∃ i, y = .int i) ∨ (∃ z, y = .str z) ∨ (∃ a dx fs, y = .ref a ∧ H a = some (.ins C dx fs)) ∨ ∃ a xs, y = .ref a ∧ H a = some (.tup xs)
structure EqC (K : PySem.W.Frag) (C : Addr) (f : Addr) : Prop where
  at_ : PySem.W.findIn K (.ref C) "__eq__" = some (some (.ref f))
  fn : PySem.W.isFn K (.ref f) = true
  nI : PySem.W.subIn K (.type "int") (.ref C) = some false
  nS : PySem.W.subIn K (.type "str") (.ref C) = some false
  nT : PySem.W.subIn K (.type "tuple") (.ref C) = some false
structure CalE (P : Program) (w : World) (K : PySem.W.Frag) (mg : Str → Option Value) (base : Heap) (C : Addr) (k : Nat) (sp : Sp) : Prop where
  ex : ∃ (f : Addr) (fd : FuncData) (ps : List Str), EqC K C f ∧ FnOk P w K mg base CX0 k f fd ps sp ∧ Binds K fd ps []
def rEqC (C : Addr) (sp : Sp) : R2 := fun x y H Q => ∃ a dx fs, x = .ref a ∧ H a = some (.ins C dx fs) ∧ EqY C H y ∧ sp [x, y] H Q E0
section
variable {X : Cx} {k : Nat} {sp : Sp} {C : Addr}
theorem eqY_ty {pins : List (Addr × Obj)} {σ : L2.St} {H : Hp} {s : Shared} {f : Addr} {y : V} {v : Value} (O : EqC X.K C f) (I : Inv X pins σ H s) (ry : RelV y v) (h : EqY C H y) :
    ∃ tb, PySem.W.Looks (model X.prog X.w) s.heap (typeOf v) tb ∧ PySem.W.notFirst X.K C tb = true := by
  rcases h with ⟨i, rfl⟩ | ⟨z, rfl⟩ | ⟨a, dx, fs, rfl, ha⟩ | ⟨a, xs, rfl, ha⟩
  · obtain ⟨t, rfl⟩ := (show ∃ t, v = Value.int i t from ry)
    exact ⟨.type "int", PySem.W.Looks.of_pure rfl, by unfold PySem.W.notFirst; rw [O.nI]; simp⟩
  · obtain ⟨t, rfl⟩ := (show ∃ t, v = Value.str z t from ry)
    exact ⟨.type "str", PySem.W.Looks.of_pure rfl, by unfold PySem.W.notFirst; rw [O.nS]; simp⟩
  · obtain rfl : v = Value.ref a := ry
    obtain ⟨mB, J, _⟩ := ins_get I.hok ha
    obtain ⟨od, J, _⟩ := J.look
    exact ⟨.ref C, J.type, by unfold PySem.W.notFirst; simp⟩
  · obtain rfl : v = Value.ref a := ry
    obtain ⟨its, rv, ⟨o, ho, hc, n, hd⟩, _⟩ := I.tuple (SqT.of ha)
    refine ⟨.type "tuple", ?_, by unfold PySem.W.notFirst; rw [O.nT]; simp⟩
    have := (PySem.W.Looks.ld (M := model X.prog X.w) (part := none) ho).andThen (f := fun o => pure o.cls) .now
    rw [hc] at this
    exact this
theorem op_eqC (c : CalE X.prog X.w X.K X.mg X.base C k sp) (hr : Room k X.A) : OpR X (compareOp .Eq) (rEqC C sp) := by
  intro pins s σ H x y v u Q I rx ry h
  obtain ⟨f, fd, ps, O, F, hb⟩ := c.ex
  obtain ⟨a, dx, fs, rfl, ha, hy, hsp⟩ := h
  obtain rfl : v = Value.ref a := rx
  obtain ⟨mA, J, _⟩ := ins_get I.hok ha
  obtain ⟨od, J, _⟩ := J.look
  obtain ⟨m, hF⟩ := I.fr
  obtain ⟨tb, ht, hn⟩ := eqY_ty O I ry hy
  show wpAny (model X.prog X.w) X.A (richCompare .Eq (.ref a) u) (EP X pins σ Q) X.xe s
  refine PySem.W.cmp_K (op := .Eq) (tb := tb) hr.units0 hF I.ok.mod.kin J ht hn O.at_ O.fn ?_
  refine thn (run_fn (Q := Q) (us := [.ref a, u]) (vs := [.ref a, y]) F hr hb .nil pass0 I (.cons rfl (.cons ry .nil)) (by rw [List.append_nil]; exact hsp)) fun w' s' hh => ?_
  obtain ⟨z, H', I', rz, q⟩ := hh
  exact back rz ⟨z, H', I', rz, q⟩
end
end OpX

set_option Elab.async false
set_option linter.all false
set_option maxRecDepth 100000
set_option maxHeartbeats 1000000
namespace OpX
open PySem PySem.Spec PyProof.Rows L2
/-- what != of an instance without an own __ne__ needs beside its __eq__ -/
structure NeC (K : PySem.W.Frag) (C : Addr) : Prop where
  at_ : PySem.W.findIn K (.ref C) "__ne__" = some (some (.builtin "object.__ne__"))
  obj : PySem.W.mroIn K C (.type "object") = some true
section
variable {prog : Program} {w : World} {A : Around} {E : Value → Shared → Prop} {s : Shared} {K : PySem.W.Frag} {x C f : Addr} {ox od : Obj} {b : Value}
open Builtin in
theorem ne_body (KX : K.In s.heap) (I : PySem.W.InstAt s.heap x ox C od) (O : EqC K C f) (hu : A.units < cLine) {Q : Fin → Shared → Prop}
    (h : wpAny (model prog w) A (call (.ref f) [.ref x, b]) (fun v s' => ∃ r, v = .bool r ∧ Q (.done (.ret (.bool (!r)))) s') E s) :
    wpAny (model prog w) A (Builtin.«object.__ne__» ⟨[.ref x, b], []⟩) Q E s := by
  have one : wpAny (model prog w) A (callSpecialIfBound? (.ref x) (Str.ofString "__eq__") [b]) (fun v s' => ∃ r, v = some (.bool r) ∧ Q (.done (.ret (.bool (!r)))) s') E s :=
    PySem.W.ifBound_K KX I O.at_ O.fn (wpAny_mono h (fun v s' hv => by
      obtain ⟨r, rfl, q⟩ := hv
      exact ⟨r, rfl, q⟩) fun _ _ e => e)
  unfold Builtin.«object.__ne__»
  obtain ⟨hh, g, d, tt, os⟩ := s
  repeat (first
    | with_reducible refine wpAny_cRoomFor hu ?_
    | (refine wpAny_bind (m := callSpecialIfBound? (.ref x) (Str.ofString "__eq__") [b]) (wpAny_mono one (fun r s' hr => by
        obtain ⟨r, rfl, hq⟩ := hr
        repeat (first | exact hq | exact wpAny_pure hq | exact wpAny_truthy_bool hq | (refine wpAny_bind (m := truthy (.bool _)) (wpAny_truthy_bool ?_)) | wp_step)) fun _ _ e => e))
    | wp_step)
theorem ne_check (KX : K.In s.heap) (I : PySem.W.InstAt s.heap x ox C od) (N : NeC K C) {Q : Unit → Shared → Prop} (hq : Q () s) : wpAny (model prog w) A (checkBuiltinCall "object.__ne__" ⟨[.ref x, b], []⟩) Q E s := by
  have ha := F.cmpArgs_ne (.ref x) b
  simp only [checkBuiltinCall, F.cmpKind_ne, F.cmpSplit_ne]
  obtain ⟨hh, g, d, tt, os⟩ := s
  have l1 : PySem.W.Looks (model prog w) hh (typeOf (.ref x)) (.ref C) := I.type
  have l2 : PySem.W.Looks (model prog w) hh (isSubtype (.ref C) (.type "object")) true := PySem.W.looks_mroIn KX N.obj
  refine wpAny_bind ?_
  unfold isInstance
  refine wpAny_bind (l1.at (l2.at ?_))
  simp only [Bool.not_true, Bool.false_eq_true, if_false]
  cases hsig : Manifest.signature? "object.__ne__" with
  | none => exact wpAny_pure hq
  | some sig =>
    simp only [argsOk, hsig] at ha
    have h2 : Bind.checkArgs "object.__ne__" sig ⟨[.ref x, b], []⟩ = pure () := ha
    show wpAny _ A (Bind.checkArgs "object.__ne__" sig ⟨[.ref x, b], []⟩) Q E _
    rw [h2]
    exact wpAny_pure hq
open PySem.W in
/-- the look for __ne__ ends at object's -/
theorem ne_bound {M : Model} {Q : Option Value → Shared → Prop} (KX : K.In s.heap) (I : InstAt s.heap x ox C od) (N : NeC K C) (h : wpAny M A (call (.builtin "object.__ne__") [.ref x, b]) (fun v => Q (some v)) E s) : wpAny M A (callSpecialIfBound? (.ref x) "__ne__" [b]) Q E s := by
  have S := F.slot_zip_ne
  simp only [callSpecialIfBound?, bindSpecialIfBound?]
  refine wpAny_holding (wpAny_bind (wpAny_bind (wpAny_bind (I.type.here ((looks_findIn KX N.at_).here ?_)))))
  simp only [S.bind]
  refine wpAny_bind (wpAny_askSetting (wpAny_ite ?_))
  have fin : wpAny M A (call (.builtin "object.__ne__") ([.ref x] ++ [b]) >>= fun v => pure (some v)) Q E s := wpAny_bind (wpAny_mono h (fun v s' h' => wpAny_pure h') fun _ _ h' => h')
  split
  · exact wpAny_bind (wpAny_pure (wpAny_pure fin))
  · exact wpAny_tryCatch (wpAny_bind (wpAny_pure (wpAny_pure fin)))
end
section
variable {X : Cx} {k : Nat} {sp : Sp} {C : Addr}
def rNeC (C : Addr) (sp : Sp) : R2 := fun x y H Q => ∃ a dx fs, x = .ref a ∧ H a = some (.ins C dx fs) ∧ EqY C H y ∧ sp [x, y] H (fun v H' => ∃ r, v = .bl r ∧ Q (.bl (!r)) H') E0
theorem op_neC (c : CalE X.prog X.w X.K X.mg X.base C k sp) (N : NeC X.K C) (hr : Room (k + 1) X.A) : OpR X (compareOp .NotEq) (rNeC C sp) := by
  intro pins s σ H x y v u Q I rx ry h
  obtain ⟨f, fd, ps, O, F, hb⟩ := c.ex
  obtain ⟨a, dx, fs, rfl, ha, hy, hsp⟩ := h
  obtain rfl : v = Value.ref a := rx
  obtain ⟨mA, J, _⟩ := ins_get I.hok ha
  obtain ⟨od, J, _⟩ := J.look
  obtain ⟨tb, ht, hn⟩ := eqY_ty O I ry hy
  show wpAny (model X.prog X.w) X.A (richCompare .NotEq (.ref a) u) (EP X pins σ Q) X.xe s
  have call1 : wpAny (model X.prog X.w) X.A.in1 (call (.ref f) [.ref a, u]) (fun v s' => ∃ r, v = .bool r ∧ EP X pins σ Q (.bool (!r)) s') X.xe s := by
    refine thn (run_in1 (us := [.ref a, u]) (vs := [.ref a, y]) F hr hb pass0 I (.cons rfl (.cons ry .nil)) hsp) fun w' s' hh => ?_
    obtain ⟨z, H', I', rz, r, rfl, q⟩ := hh
    cases rz
    exact ⟨r, rfl, .bl (!r), H', I', rfl, q⟩
  have one : wpAny (model X.prog X.w) X.A (tryCompare (.ref a) "__ne__" u) (fun r s' => ∃ v, r = some v ∧ EP X pins σ Q v s') X.xe s := by
    unfold tryCompare
    refine wpAny_bind (ne_bound I.kIn J N (wpAny_call (codeAny_call_builtin PySem.F.slot_zip_ne.plain PySem.F.cmpEntry_ne (ne_check I.kIn J N ?_))))
    refine ne_body (A := X.A.in1) I.kIn J O (by have := hr.un; show X.A.units + 1 < _; omega) (wpAny_mono call1 (fun v s' hv => ?_) fun _ _ e => e)
    obtain ⟨r, rfl, q⟩ := hv
    refine ⟨r, rfl, ?_⟩
    first
    | exact wpAny_pure ⟨_, rfl, q⟩
    | exact ⟨_, rfl, q⟩
  unfold richCompare
  simp only [PySem.oneThing_ref]
  refine wpAny_holding (wpAny_bind (wpAny_cRoomFor hr.units0 ?_))
  refine wpAny_bind (J.type.here (wpAny_bind (ht.here ?_)))
  split
  · rename_i q
    have e : PySem.W.subIn X.K tb (.ref C) = some false := by
      rcases Bool.or_eq_true_iff.mp hn with e | e
      · rw [beq_iff_eq.mp e] at q
        simp at q
      · exact beq_iff_eq.mp e
    refine wpAny_bind ((PySem.W.looks_subIn I.kIn e).here ?_)
    simp only [Bool.false_eq_true, if_false]
    refine wpAny_bind (wpAny_mono one (fun r s' z => ?_) fun _ _ e => e)
    obtain ⟨v, rfl, hq⟩ := z
    exact wpAny_pure hq
  · refine wpAny_bind (wpAny_pure ?_)
    simp only [Bool.false_eq_true, if_false]
    refine wpAny_bind (wpAny_mono one (fun r s' z => ?_) fun _ _ e => e)
    obtain ⟨v, rfl, hq⟩ := z
    exact wpAny_pure hq
end
end OpX

set_option Elab.async false
set_option linter.all false
set_option maxRecDepth 100000
set_option maxHeartbeats 1000000
namespace OpX
open PySem PySem.Spec PyProof.Rows L2
section
variable {X : Cx} {k : Nat} {sp : Sp} {C : Addr} {o i e : Expr} {to ti te : TE} {pos : Pos}
/-- .. run two builtins deeper -/
theorem run_in2 {CX : CXT} {f : Addr} {fd : FuncData} {ps : List Str} {E : XK} {pins : List (Addr × Obj)} {σ : L2.St} {H : Hp} {s : Shared} {Q : VK} {us : List Value} {vs : List V} (F : FnOk X.prog X.w X.K X.mg X.base CX k f fd ps sp) (hr : Room (k + 1 + 1) X.A) (hb : Binds X.K fd ps [])
    (hx : Passes CX X E) (I : Inv X pins σ H s) (r : Vals vs us) (h : sp vs H Q E) : wpAny (model X.prog X.w) X.A.in1.in1 (call (.ref f) us) (EP X pins σ Q) X.xe s := by
  have hl : us.length = ps.length := by rw [← r.length]; exact F.len _ _ _ _ h
  have hb' := hb s us I.kIn (by rw [List.append_nil]; exact hl)
  rw [List.append_nil] at hb'
  refine wpAny_call (codeAny_mono (F.run X.A.in1.in1 X.stack s H ⟨us, []⟩ us vs Q E hr.in1.in1 I.env0.in1.in1 hb' r h) fun r s' hq => ?_)
  cases r with
  | error e => exact hx pins σ H s e s' I hq
  | ok fl =>
    cases fl with
    | ret u => exact I.after hq
    | next => exact False.elim hq
    | brk => exact False.elim hq
    | cont => exact False.elim hq
/-- str(o) of a class with an own __str__ -/
theorem call_strC (c : CalG X.prog X.w X.K X.mg X.base C "__str__" k sp) (hr : Room (k + 1 + 1) X.A) : CallR X (.type "str") (fun xs H Q => ∃ a dx fs, xs = [.ref a] ∧ H a = some (.ins C dx fs) ∧ sp [.ref a] H (fun v H' => ∃ z, v = .str z ∧ Q v H') E0) := by
  intro pins s σ H xs us Q I r h
  obtain ⟨f, fd, ps, hs, hf, hfn, F, hb⟩ := c.ex
  obtain ⟨a, dx, fs, rfl, ha, hsp⟩ := h
  obtain ⟨u, rfl, rx⟩ := vals1 r
  obtain rfl : u = Value.ref a := rx
  obtain ⟨mA, J, _⟩ := ins_get I.hok ha
  obtain ⟨od, J, _⟩ := J.look
  refine PySem.W.kso_call (hr.in1.in1.units0) I.kIn J hs hf (thn (run_in2 F hr hb pass0 I (us := [.ref a]) (vs := [.ref a]) (.cons rfl .nil) hsp) fun v s' z => ?_)
  obtain ⟨x, H', I', rx, zz, rfl, q⟩ := z
  obtain ⟨t, rfl⟩ := (show ∃ t, v = Value.str zz t from rx)
  exact ⟨.str zz, H', I', ⟨t, rfl⟩, q⟩
/-- xs[::-1] of a list -/
def tRevL (K : PySem.W.Frag) (te : TE) (tk : TO) : TE := fun σ H Q => te σ H fun x H1 => tk σ H1 fun l H2 => l = some (-1) ∧ ∃ a xs, x = .ref a ∧ SqL K H2 a xs ∧ ∀ p, H2 p = none → Q (.ref p) (upd H2 p (.lst xs.reverse))
theorem pe_rev {st : Option Expr} {tk : TO} {p2 : Pos} (he : PE X e te) (hk : PO X st tk) (hs : ∀ a sl, subscripted (.Slice none none st p2) false (.ref a) (.ref sl) = operate [.ref a, .ref sl] (getItem (.ref a) (.ref sl)) := by intro _ _; with_unfolding_all rfl) : PE X (.Subscript e (.Slice none none st p2) pos) (tRevL X.K te tk) := by
  refine ⟨fun pins s σ H Q I h => ?_⟩
  refine Subscript_ (thn (he.run pins s σ H _ I h) fun v s1 ⟨x, H1, I1, r1, q1⟩ => ?_)
  refine wpAny_Slice ?_
  rw [evalPart_none]
  refine wpAny_pure (wpAny_pure ?_)
  refine thn (hk.run pins s1 σ H1 _ I1 q1) fun vk s2 ⟨l, H2, I2, pk, el, a, xs, ex, hx, q2⟩ => ?_
  subst el ex
  obtain rfl : v = Value.ref a := r1
  have I4 : Inv X pins σ H2 { s2 with heap := s2.heap.push { cls := .type "slice", data := .fields #[.none, .none, vk] } } := I2.kept (t' := s2.toks) fun b ob q => Heap.get?_push_of_some _ q
  obtain ⟨its, r, ht, hz⟩ := I4.list hx
  refine tail_any (ops := [.ref a, .ref s2.heap.objs.size]) ht.isList.typeIs slot_list_getitem.lookup ?_ (hs _ _)
  refine wpAny_getItem_list_slice ht.isList (Heap.IsSliceOf.new ..) .none .none pk (by simp) ?_ (by rw [List.size_toArray]; have := r.length; omega)
  rw [PySem.W.krv_pick]
  refine ⟨.ref _, _, I4.laid (t' := s2.toks) (o := .lst xs.reverse) (fun b ob q => Heap.get?_push_of_some _ q) (Nat.le_refl _) ?_, rfl, q2 _ (I4.hok.fresh (Nat.le_refl _))⟩
  refine ⟨by rw [List.length_reverse]; exact hz, _, 0, r.reverse, Heap.get?_push_size _ rfl⟩
end
end OpX

set_option Elab.async false
set_option linter.all false
set_option maxRecDepth 100000
set_option maxHeartbeats 1000000
namespace OpX
open PySem PySem.Spec PyProof.Rows L2
/-- int == an instance: int's own says NotImplemented -/
theorem int_eq_inst {prog : Program} {w : World} {A : Around} {E : Value → Shared → Prop} {s : Shared} {i : Int} {t : Tok} {b : Addr} {ob : Obj} {Q : Value → Shared → Prop} (h1 : s.heap.get? b = some ob) (h2 : ob.data = .plain) (hq : Q .notImplemented s) :
    wpAny (model prog w) A (call (.builtin "int.__eq__") [.int i t, .ref b]) Q E s := by
  refine GQ.call_here F.slot_int_eq rfl F.entry_int_eq (F.args_int_eq_2 _ _) ?_
  show wpAny _ _ (Builtin.Int.intBinary "__eq__" (fun x y => PySem.ret (.bool (x == y))) false ⟨[.int i t, .ref b], []⟩) _ _ _
  unfold Builtin.Int.intBinary
  refine wpAny_bind (wpAny_of_eq (a := (Value.int i t, [Value.ref b])) (by first | rfl | kernel_rfl) ?_)
  refine wpAny_bind (wpAny_of_eq (a := i) (by first | rfl | kernel_rfl) ?_)
  refine wpAny_bind (asInt_inst h1 h2 ?_)
  exact wpAny_bind (wpAny_rule (wpAny_pure hq))
section
variable {X : Cx} {k : Nat} {sp : Sp} {C : Addr}
def rEqRev (C : Addr) (sp : Sp) : R2 := fun x y H Q => ∃ i a dx fs, x = .int i ∧ y = .ref a ∧ H a = some (.ins C dx fs) ∧ sp [y, x] H Q E0
open PySem.W in
theorem op_eqRev (c : CalE X.prog X.w X.K X.mg X.base C k sp) (sb : PySem.W.subIn X.K (.ref C) (.type "int") = some false) (hr : Room k X.A) : OpR X (compareOp .Eq) (rEqRev C sp) := by
  intro pins s σ H x y v u Q I rx ry h
  obtain ⟨f, fd, ps, O, F, hb⟩ := c.ex
  obtain ⟨i, a, dx, fs, rfl, rfl, ha, hsp⟩ := h
  obtain rfl : u = Value.ref a := ry
  obtain ⟨t, rfl⟩ := (show ∃ t, v = Value.int i t from rx)
  obtain ⟨mA, J, _⟩ := ins_get I.hok ha
  have hat := J.obj
  obtain ⟨od, J, _⟩ := J.look
  have KX := I.kIn
  have hcall : wpAny (model X.prog X.w) X.A (call (.ref f) [.ref a, .int i t]) (PySem.W.CmpBack (EP X pins σ Q)) X.xe s := by
    refine thn (run_fn (Q := Q) (us := [.ref a, .int i t]) (vs := [.ref a, .int i]) F hr hb .nil pass0 I (.cons rfl (.cons rx .nil)) (by rw [List.append_nil]; exact hsp)) fun w' s' hh => ?_
    obtain ⟨z, H', I', rz, q⟩ := hh
    exact back rz ⟨z, H', I', rz, q⟩
  have one : wpAny (model X.prog X.w) X.A (tryCompare (.ref a) (cmpInfo .Eq).2.1 (.int i t)) (fun r s' => ∃ v, r = some v ∧ EP X pins σ Q v s') X.xe s := by
    unfold tryCompare
    refine wpAny_bind (ifBound_K KX J O.at_ O.fn (wpAny_mono hcall (fun v s' hv => ?_) fun _ _ e => e))
    cases v <;> first | exact hv.elim | exact wpAny_pure ⟨_, rfl, hv⟩
  have first : ∀ {Q' : Option Value → Shared → Prop}, Q' none s → wpAny (model X.prog X.w) X.A (tryCompare (.int i t) (cmpInfo .Eq).2.1 (.ref a)) Q' X.xe s := fun {Q'} q => by
    unfold tryCompare
    refine wpAny_bind (wpAny_callSpecialIfBound?_slot (T := "int") rfl PySem.F.slot_int_eq ?_)
    exact int_eq_inst hat rfl (wpAny_pure q)
  show wpAny (model X.prog X.w) X.A (richCompare .Eq (.int i t) (.ref a)) (EP X pins σ Q) X.xe s
  unfold richCompare
  refine wpAny_holding (wpAny_bind (wpAny_cRoomFor hr.units0 ?_))
  have L1 : Looks (model X.prog X.w) s.heap (typeOf (.ref a)) (.ref C) := J.type
  have L5 : Looks (model X.prog X.w) s.heap (isSubtype (.ref C) (.type "int")) false := looks_subIn KX sb
  have L0 : Looks (model X.prog X.w) s.heap (typeOf (.int i t)) (.type "int") := Looks.of_pure rfl
  have hne0 : (Value.type "int" == Value.ref C) = false := Bool.eq_false_iff.mpr fun q => by cases beq_iff_eq.mp q
  have hne : (Value.type "int" != Value.ref C) = true := by
    show (!(Value.type "int" == Value.ref C)) = true
    rw [hne0]
    rfl
  show wpAny _ _ (typeOf (.int i t) >>= fun ta => _) _ _ _
  refine wpAny_bind (L0.here (wpAny_bind (L1.here ?_)))
  rw [hne]
  simp only [if_true]
  refine wpAny_bind (L5.here ?_)
  simp only [Bool.false_eq_true, if_false]
  refine wpAny_bind (first ?_)
  dsimp only
  refine wpAny_bind (wpAny_mono one (fun r s' z => ?_) fun _ _ e => e)
  obtain ⟨v, rfl, hq⟩ := z
  exact wpAny_pure hq
end
/-- dicts of texts and ints compared -/
def rEqDI : R2 := fun x y H Q => ∃ a b m m2, x = .ref a ∧ y = .ref b ∧ H a = some (.dK (Ow.kvI m)) ∧ H b = some (.dK (Ow.kvI m2)) ∧ ∀ r : Bool, (r = true ↔ m.length = m2.length ∧ ∀ q ∈ m, valV (Ow.kvI m2) (Sum.inr q.1) = some (.int q.2)) → Q (.bl r) H
theorem kvI_int {k : Key} {v : V} : ∀ {m : Ow.Ps}, valV (Ow.kvI m) k = some v → ∃ i, v = .int i
  | [], h => by cases h
  | (x, n) :: m, h => by
    have h : valV (((Sum.inr x : Key), V.int n) :: Ow.kvI m) k = some v := h
    by_cases e : (Sum.inr x : Key) = k
    · rw [valV_pos e] at h
      cases h
      exact ⟨n, rfl⟩
    · rw [valV_neg e] at h
      exact kvI_int h
theorem hits_int {A : Around} {s : Shared} {m2 : Ow.Ps} {vb : List (Key × Value)} (rb : KV (Ow.kvI m2) vb) : ∀ {m : Ow.Ps} {va : List (Key × Value)}, KV (Ow.kvI m) va → ∃ r, PySem.W.KeqHits A s vb va r ∧ (r = true ↔ ∀ q ∈ m, valV (Ow.kvI m2) (Sum.inr q.1) = some (.int q.2))
  | [], va, ra => by
    cases ra
    exact ⟨true, .nil, by simp⟩
  | (x, n) :: m, va, ra => by
    have ra' : Paired (fun (p : Key × V) (q : Key × Value) => p.1 = q.1 ∧ RelV p.2 q.2) ((Sum.inr x, V.int n) :: Ow.kvI m) va := ra
    cases ra' with
    | @cons _ q _ qs h t =>
      obtain ⟨k, v⟩ := q
      obtain ⟨h1, h2⟩ := h
      obtain rfl : (Sum.inr x : Key) = k := h1
      obtain ⟨tt, rfl⟩ := (show ∃ tt, v = Value.int n tt from h2)
      obtain ⟨r, hr, hiff⟩ := hits_int (A := A) (s := s) rb (m := m) (va := qs) t
      have rr := rb.val (Sum.inr x)
      cases e : valV (Ow.kvI m2) (Sum.inr x) with
      | none =>
        rw [e] at rr
        refine ⟨false, .miss (by cases q : valueAt vb (Sum.inr x) with | none => rfl | some y => rw [q] at rr; exact rr.elim), ?_⟩
        constructor
        · intro z
          cases z
        · intro z
          have := z (x, n) List.mem_cons_self
          rw [e] at this
          cases this
      | some v2 =>
        obtain ⟨n2, rfl⟩ := kvI_int e
        rw [e] at rr
        obtain ⟨y, hy, ry⟩ := rr.some_of
        obtain ⟨t2, rfl⟩ := (show ∃ t2, y = Value.int n2 t2 from ry)
        refine ⟨(n == n2) && r, .hit hy (SeqAt.EqAt.int_int n tt n2 t2) hr, ?_⟩
        rw [Bool.and_eq_true, beq_iff_eq, hiff]
        constructor
        · rintro ⟨z1, z2⟩ q hq
          rcases List.mem_cons.mp hq with rfl | hq
          · rw [e, z1]
          · exact z2 q hq
        · intro z
          refine ⟨?_, fun q hq => z q (List.mem_cons_of_mem _ hq)⟩
          have := z (x, n) List.mem_cons_self
          rw [e] at this
          injection this with this
          injection this with this
          exact this.symm
theorem op_eq_dictI {X : Cx} (hu : X.A.units < cLine) : OpR X (compareOp .Eq) rEqDI := by
  intro pins s σ H x y v u Q I rx ry h
  obtain ⟨a, b, m, m2, rfl, rfl, ea, eb, q⟩ := h
  obtain rfl : v = Value.ref a := rx
  obtain rfl : u = Value.ref b := ry
  obtain ⟨_, ya, va, ra, da⟩ := (show ObjOk X.prog X.w H s.heap a (.dK (Ow.kvI m)) from I.hok a _ ea)
  obtain ⟨_, yb, vb, rb, db⟩ := (show ObjOk X.prog X.w H s.heap b (.dK (Ow.kvI m2)) from I.hok b _ eb)
  obtain ⟨r, hr, hiff⟩ := hits_int (A := X.A.in1) (s := s) rb ra
  have la : va.length = m.length := by rw [← ra.length, Ow.kvI_len]
  have lb : vb.length = m2.length := by rw [← rb.length, Ow.kvI_len]
  refine PySem.W.keq_eq (knd := mixKind X.prog X.w) (r := r) ya yb da db hu (fun _ => hr) (fin_bl I (q (decide (m.length = m2.length) && r) ?_) (by rw [la, lb]; rfl))
  rw [Bool.and_eq_true, decide_eq_true_iff, hiff]
end OpX

set_option Elab.async false
set_option linter.all false
set_option maxRecDepth 100000
set_option maxHeartbeats 1000000
/-! the text of a form -/
namespace Ow
open PySem PySem.Spec PyProof.Rows L2
abbrev Ts := List (Int × Str)
def sgn (n : Int) : Str := if n < 0 then " - " else " + "
def allT : Ts → Str
  | [] => ""
  | q :: r => (sgn q.1 ++ q.2) ++ allT r
def outT : Ts → Str
  | [] => ""
  | q :: r => if q.1 < 0 then "-" ++ (q.2 ++ allT r) else q.2 ++ allT r
theorem str_e (a : Str) : a ++ "" = a := Str.append_empty a
theorem str_0 (a : Str) : "" ++ a = a := Str.empty_append a
theorem allT_snoc (q : Int × Str) : ∀ r : Ts, allT (r ++ [q]) = allT r ++ (sgn q.1 ++ q.2)
  | [] => by
    show (sgn q.1 ++ q.2) ++ "" = "" ++ (sgn q.1 ++ q.2)
    rw [str_e, str_0]
  | p :: r => by
    show (sgn p.1 ++ p.2) ++ allT (r ++ [q]) = (sgn p.1 ++ p.2) ++ allT r ++ (sgn q.1 ++ q.2)
    rw [allT_snoc q r, ← Str.append_assoc (sgn p.1 ++ p.2)]
theorem outT_snoc (q : Int × Str) {p : Int × Str} {r : Ts} : outT ((p :: r) ++ [q]) = outT (p :: r) ++ (sgn q.1 ++ q.2) := by
  show (if p.1 < 0 then "-" ++ (p.2 ++ allT (r ++ [q])) else p.2 ++ allT (r ++ [q])) = (if p.1 < 0 then "-" ++ (p.2 ++ allT r) else p.2 ++ allT r) ++ (sgn q.1 ++ q.2)
  rw [allT_snoc]
  split <;> simp only [Str.append_assoc]
theorem join_all' : ∀ ps : Ts, Str.join "" (ps.map fun q => sgn q.1 ++ q.2) = allT ps
  | [] => rfl
  | [q] => (str_e (sgn q.1 ++ q.2)).symm
  | q :: p :: r => by
    have ih := join_all' (p :: r)
    show (sgn q.1 ++ q.2) ++ "" ++ Str.join "" ((p :: r).map fun q => sgn q.1 ++ q.2) = (sgn q.1 ++ q.2) ++ allT (p :: r)
    rw [ih, str_e]
theorem join_all (ps : Ts) : Txt.join "" (ps.map fun q => sgn q.1 ++ q.2) = allT ps := by
  rw [← join_all' ps]
  exact StrLaws.glued_eq_join _ _
theorem sgn_len (n : Int) : (sgn n).cps.toList.length = 3 := by
  unfold sgn
  split <;> rfl
theorem str_ext {a b : Str} (h : a.cps.toList = b.cps.toList) : a = b := by
  obtain ⟨a⟩ := a
  obtain ⟨b⟩ := b
  have e : a = b := Array.ext' h
  rw [e]
theorem cps_app (a b : Str) : (a ++ b).cps.toList = a.cps.toList ++ b.cps.toList := by
  rw [Str.cps_append, Array.toList_append]
theorem cut_all (q : Int × Str) (r : Ts) : cutS (allT (q :: r)) (some 3) none = q.2 ++ allT r := by
  have e : (allT (q :: r)).cps.toList = (sgn q.1).cps.toList ++ (q.2 ++ allT r).cps.toList := by
    show ((sgn q.1 ++ q.2) ++ allT r).cps.toList = _
    rw [Str.append_assoc, cps_app]
  have hl : (allT (q :: r)).length = 3 + (q.2 ++ allT r).cps.toList.length := by
    show (allT (q :: r)).cps.size = _
    rw [← Array.length_toList, e, List.length_append, sgn_len]
  refine str_ext ?_
  show ((((allT (q :: r)).cps.toList.drop (HT.sIx (allT (q :: r)).length 0 (some 3))).take (HT.sIx (allT (q :: r)).length (allT (q :: r)).length none - HT.sIx (allT (q :: r)).length 0 (some 3))).toArray).toList = _
  have h3 : HT.sIx (allT (q :: r)).length 0 (some 3) = 3 := by
    have := HT.sIx_nat (allT (q :: r)).length 0 3
    rw [show ((3 : Nat) : Int) = 3 from rfl] at this
    rw [this]
    omega
  rw [h3, HT.sIx_none, e, ← sgn_len q.1, List.drop_left, List.take_of_length_le (by rw [sgn_len]; omega)]
theorem sub_at {a b c : Str} (h : c.length = b.length) : (Builtin.Str.subAt (c ++ a) b 0) = decide (c = b) := by
  have e : ((c ++ a).cps.extract 0 (0 + b.length)).toList = c.cps.toList := by
    rw [Array.toList_extract, cps_app, List.extract_eq_take_drop, List.drop_zero, ← h]
    show List.take (0 + c.cps.size - 0) (c.cps.toList ++ a.cps.toList) = _
    rw [← Array.length_toList, Nat.zero_add, Nat.sub_zero, List.take_left]
  have e2 : (c ++ a).cps.extract 0 (0 + b.length) = c.cps := Array.ext' e
  unfold Builtin.Str.subAt
  rw [e2, Bool.eq_iff_iff, beq_iff_eq, decide_eq_true_iff]
  exact ⟨fun z => str_ext (by rw [z]), fun z => by rw [z]⟩
theorem start_all (q : Int × Str) (r : Ts) : Txt.startswith (allT (q :: r)) " - " = decide (q.1 < 0) := by
  show (decide (0 + (" - " : Str).length ≤ (sgn q.1 ++ q.2 ++ allT r).length) && Builtin.Str.subAt (sgn q.1 ++ q.2 ++ allT r) " - " 0) = _
  rw [Str.append_assoc, sub_at (by show (sgn q.1).cps.size = 3; rw [← Array.length_toList, sgn_len])]
  have hl : decide (0 + (" - " : Str).length ≤ (sgn q.1 ++ (q.2 ++ allT r)).length) = true := by
    refine decide_eq_true ?_
    show 0 + 3 ≤ (sgn q.1 ++ (q.2 ++ allT r)).cps.size
    rw [← Array.length_toList, cps_app, List.length_append, sgn_len]
    omega
  rw [hl, Bool.true_and]
  unfold sgn
  by_cases h : q.1 < 0
  · rw [if_pos h, decide_eq_true h, decide_eq_true rfl]
  · rw [if_neg h, decide_eq_false h, decide_eq_false (by decide +kernel)]
theorem start_nil : Txt.startswith (allT []) " - " = false := by decide +kernel
end Ow
namespace Ow
open PySem PySem.Spec PyProof.Rows L2
theorem one_iff {n : Int} (h : 0 ≤ n) : (PySem.Str.ofString (toString n) = "1") ↔ n = 1 := by
  constructor
  · intro e
    obtain ⟨m, rfl⟩ := Int.eq_ofNat_of_zero_le h
    have e2 := congrArg (fun s : Str => s.length) e
    have e3 : (toString ((m : Nat) : Int)).toList.length = 1 := by
      rw [← PyProof.Rows.ofString_length]
      exact e2
    have hm : m < 10 := by
      have e4 : (Nat.repr m).length ≤ 1 := by
        rw [← String.length_toList]
        exact Nat.le_of_eq e3
      have := (Nat.length_repr_le_iff (n := m) (k := 1) (by decide)).mp e4
      omega
    have : ∀ m : Fin 10, (PySem.Str.ofString (toString ((m.val : Nat) : Int)) = "1") → m.val = 1 := by decide +kernel
    have := this ⟨m, hm⟩ e
    simp only at this
    omega
  · rintro rfl
    decide +kernel
end Ow
namespace Ow
open PySem PySem.Spec PyProof.Rows L2
def az (n : Int) : Int := if n < 0 then -n else n
theorem az_nn (n : Int) : 0 ≤ az n := by
  unfold az
  split <;> omega
theorem az_abs (n : Int) : (az n).natAbs = n.natAbs := by
  unfold az
  split <;> omega
def dg (n : Int) : Str := Str.ofString (toString (az n))
theorem dg_len {n : Int} (h : n.natAbs < 10 ^ 60) : (dg n).length ≤ 60 := by
  have h1 := az_abs n
  have h2 := az_nn n
  have h3 : az n < 10 ^ 60 := by omega
  exact PyProof.Rows.toString_length_le h2 (by decide) h3
def ptx (q : Str × Int) : Str := if az q.2 = 1 then q.1 else dg q.2 ++ "*" ++ q.1
theorem app_len (a b : Str) : (a ++ b).length = a.length + b.length := by
  show (a ++ b).cps.size = a.cps.size + b.cps.size
  rw [← Array.length_toList, cps_app, List.length_append, Array.length_toList, Array.length_toList]
theorem ptx_len {q : Str × Int} (h : q.2.natAbs < 10 ^ 60) (hs : isSym q.1 = true) : (ptx q).length ≤ 122 := by
  have h1 : q.1.length ≤ 61 := by
    have := sym_small hs
    rw [Array.length_toList] at this
    exact this
  unfold ptx
  split
  · omega
  · rw [app_len, app_len]
    have h2 := dg_len h
    have h3 : ("*" : Str).length = 1 := rfl
    omega
def partsT (c : Int) (L : Ps) : Ts := (if c ≠ 0 ∨ L = [] then [(c, dg c)] else []) ++ L.map fun q => (q.2, ptx q)
def txt (c : Int) (L : Ps) : Str := outT (partsT c L)
def OkT (ps : Ts) : Prop := ∀ q ∈ ps, q.2.length ≤ 122
theorem sg_len (n : Int) : (sgn n).length = 3 := by
  show (sgn n).cps.size = 3
  rw [← Array.length_toList, sgn_len]
theorem allT_len : ∀ {ps : Ts}, OkT ps → (allT ps).length ≤ 125 * ps.length
  | [], _ => Nat.le_refl _
  | q :: r, h => by
    have h1 := allT_len (ps := r) fun x hx => h x (List.mem_cons_of_mem _ hx)
    have h2 := h q List.mem_cons_self
    show ((sgn q.1 ++ q.2) ++ allT r).length ≤ 125 * (r.length + 1)
    rw [app_len, app_len, sg_len]
    omega
theorem outT_len {ps : Ts} (h : OkT ps) : (outT ps).length ≤ 125 * ps.length := by
  cases ps with
  | nil => exact Nat.le_refl _
  | cons q r =>
    have h1 := allT_len (ps := r) fun x hx => h x (List.mem_cons_of_mem _ hx)
    have h2 := h q List.mem_cons_self
    have h3 : ("-" : Str).length = 1 := rfl
    show (if q.1 < 0 then "-" ++ (q.2 ++ allT r) else q.2 ++ allT r).length ≤ 125 * (r.length + 1)
    split
    · rw [app_len, app_len]
      omega
    · rw [app_len]
      omega
theorem partsT_ok {c : Int} {L : Ps} (hc : c.natAbs < 10 ^ 60) (hL : ∀ q ∈ L, q.2.natAbs < 10 ^ 60) (hS : ∀ q ∈ L, isSym q.1 = true) : OkT (partsT c L) := by
  intro q hq
  rcases List.mem_append.mp hq with hq | hq
  · split at hq
    · rw [List.mem_singleton.mp hq]
      have := dg_len hc
      show (dg c).length ≤ 122
      omega
    · cases hq
  · obtain ⟨x, hx, rfl⟩ := List.mem_map.mp hq
    exact ptx_len (hL x hx) (hS x hx)
theorem partsT_len (c : Int) (L : Ps) : (partsT c L).length ≤ L.length + 1 := by
  unfold partsT
  rw [List.length_append, List.length_map]
  split
  · show 1 + _ ≤ _
    omega
  · show 0 + _ ≤ _
    omega
end Ow
namespace Ow
open PySem PySem.Spec PyProof.Rows L2
theorem join_bound : ∀ {ps : Ts}, OkT ps → ((ps.map fun q => sgn q.1 ++ q.2).map (·.length)).sum ≤ 125 * ps.length
  | [], _ => Nat.le_refl _
  | q :: r, h => by
    have h1 := join_bound (ps := r) fun x hx => h x (List.mem_cons_of_mem _ hx)
    have h2 := h q List.mem_cons_self
    rw [List.map_cons, List.map_cons, List.sum_cons, app_len, sg_len, List.length_cons]
    omega
theorem log60 {n : Int} (h : n.natAbs < 10 ^ 60) : n.natAbs.log2 < 1920 := by
  have := log_small (n := n.natAbs) (by omega)
  omega
end Ow

set_option Elab.async false
set_option linter.all false
set_option maxRecDepth 100000
set_option maxHeartbeats 4000000
namespace Ow
open PySem PySem.Spec PyProof.Rows L2
def top (i : Nat) : Stmt := PySem.Challenge.pw_owedanswers_k04_forms_equal.main.body.getD i (.Pass ⟨0, 0, 0, 0⟩)
structure Txt (mg : Str → Option Value) : Prop where
  n_len : mg "len" = none
  n_abs : mg "abs" = none
  n_int : mg "int" = none
  n_str : mg "str" = none
  n_min : mg "min" = none
  n_max : mg "max" = none
  n_all : mg "all" = none
  n_range : mg "range" = none
  n_sorted : mg "sorted" = none
  n_list : mg "list" = none
  n_tuple : mg "tuple" = none
  n_dict : mg "dict" = none
  n_isinstance : mg "isinstance" = none
  n_sum : mg "sum" = none
  mg_LETTERS : ∃ t, mg "LETTERS" = some (.str "abcdefghijklmnopqrstuvwxyz" t)
  mg_DIGITS : ∃ t, mg "DIGITS" = some (.str "0123456789" t)
  mg_MOST_LETTERS : ∃ t, mg "MOST_LETTERS" = some (.int 3 t)
  mg_MOST_DIGITS : ∃ t, mg "MOST_DIGITS" = some (.int 60 t)
local macro_rules | `(tactic| walk_at "rd") => `(tactic| repeat (first | (refine ⟨_, rfl, ?_⟩) | (refine ⟨_, _, rfl, rfl, ?_⟩) | (refine Or.inl ⟨_, rfl, ?_⟩) | (refine ⟨(by first | (show (0 : Int) < (_ : Int); decide) | exact Or.inl ⟨by decide, by decide⟩ | exact Or.inr ⟨by decide, by decide⟩ | exact ⟨by decide, by decide⟩ | exact ⟨by decide, by decide, by decide⟩), ?_⟩)))
section
variable {P : Program} {w : World} {K : PySem.W.Frag} {mg : Str → Option Value} {base : Heap}
abbrev s_law_bag : Stmt := top 19
theorem sc_law_bag : FnScope ["script", "at", "cell", "digits"] ["script", "at"] (defScope s_law_bag) := ⟨rfl, rfl, rfl, by decide +kernel, rfl, by decide +kernel, by decide +kernel⟩
theorem ok_bag {f : Addr} {fd : FuncData} (F : Fun K "_law_bag" "_law_bag" s_law_bag f fd) (T : Txt mg) : FnOk P w K mg base CX0 1 f fd ["script", "at"] (spBag K) := by
  refine F.ok sc_law_bag (fun vs H Q E h => ?_) (fun cdv A outer s H vs Q E hr h => ?_)
  · obtain ⟨a, ns, j, rfl, _⟩ := h
    rfl
  · obtain ⟨a, ns, j, rfl, hS, hl, hj, k⟩ := h
    have hu := hu_of hr
    refine ⟨_, (pss_cons (ps_set (i := 2) sc_law_bag.nd rfl (Or.inl rfl) (pe_ifExp (pt_cmpR op_lt (pv 1) (pe_callB call_len_seq (by rfl) T.n_len (by decide +kernel) (pa_cons (pv 0) pa_nil)) (nomark _)) (pe_ix ix_list (pv 0) (pv 1) (fun _ _ => rfl)) pe_int))
      (pss_cons (ps_set (i := 3) sc_law_bag.nd rfl (Or.inl rfl) (pe_ifExp (pt_cmpR op_ge (pe_callB call_abs (by rfl) T.n_abs (by decide +kernel) (pa_cons (pv 2) pa_nil)) (pe_op op_pow pe_int pe_int) (nomark _)) (pe_callB call_abs (by rfl) T.n_abs (by decide +kernel) (pa_cons (pv 2) pa_nil)) pe_int))
      (pss_one (ps_ret (pe_lst (pa_cons (pv 3) (pa_cons (pe_op op_add (pe_op op_add (pe_op op_mul (pe_op op_mod (pe_callTy call_int1 (by rfl) T.n_int (by decide +kernel) (pa_cons (pv 2) pa_nil)) pe_int) pe_int) (pe_op op_mul pe_int (pv 1))) pe_int) (pa_cons pe_int pa_nil)))))))), ?_⟩
    refine ⟨_, rfl, _, rfl, a, _, rfl, .inl hS, _, _, rfl, rfl, _, rfl, ?_⟩
    refine ite2 (fun h => ?_) (fun h => ?_)
    · have hj' : j < ns.length := by
        have h := of_decide_eq_true h
        rw [List.length_map] at h
        omega
      refine ⟨_, rfl, _, rfl, a, _, _, _, rfl, rfl, hS, atI_nat (j := j) (v := .int ns[j]) (by rw [List.getElem?_map, List.getElem?_eq_getElem hj']; rfl), ?_⟩
      generalize ns[j] = cell
      walk_at "rd"
      refine ite2 (fun h => ?_) (fun h => ?_)
      all_goals
        walk_at "rd"
        refine ⟨by show 3 ≤ sizeLine; decide, fun b hb => k b _ hb ⟨_, _, _, upd_same, ?_, ?_, Int.le_refl 0, Int.le_refl 0⟩ fun a o e => (upd_ne (ne_of_none e hb)).trans e⟩
        · have := Int.emod_nonneg cell (show (2305843009213693951 : Int) ≠ 0 by decide)
          omega
        · have := Int.emod_lt_of_pos cell (show (0 : Int) < 2305843009213693951 by decide)
          omega
    · walk_at "rd"
      refine ⟨by show 3 ≤ sizeLine; decide, fun b hb => k b _ hb ⟨_, _, _, upd_same, ?_, ?_, Int.le_refl 0, Int.le_refl 0⟩ fun a o e => (upd_ne (ne_of_none e hb)).trans e⟩
      · omega
      · omega
abbrev s_law_take : Stmt := top 20
theorem sc_law_take : FnScope ["bag", "many", "mixed", "digit"] ["bag", "many"] (defScope s_law_take) := ⟨rfl, rfl, rfl, by decide +kernel, rfl, by decide +kernel, by decide +kernel⟩
theorem ok_take {f : Addr} {fd : FuncData} (F : Fun K "_law_take" "_law_take" s_law_take f fd) (T : Txt mg) : FnOk P w K mg base CX0 1 f fd ["bag", "many"] spTake := by
  refine F.ok sc_law_take (fun vs H Q E h => ?_) (fun cdv A outer s H vs Q E hr h => ?_)
  · obtain ⟨b, n, many, rfl, _⟩ := h
    rfl
  · obtain ⟨b, n, many, rfl, ⟨d, m, c, hb, h1, h2, h3, h4⟩, hn, hm, hz, k⟩ := h
    have hu := hu_of hr
    refine ⟨_, (pss_cons (ps_if (pt_cmpR op_gt (pe_ix ix_list (pv 0) pe_int (fun _ _ => rfl)) pe_int (nomark _)) (pss_cons (ps_set (i := 3) sc_law_take.nd rfl (Or.inl rfl) (pe_op op_mod (pe_callTy call_int1 (by rfl) T.n_int (by decide +kernel) (pa_cons (pe_ix ix_list (pv 0) pe_int (fun _ _ => rfl)) pa_nil)) (pv 1)))
      (pss_cons (ps_asg (pe_op op_fdivW (pe_ix ix_list (pv 0) pe_int (fun _ _ => rfl)) (pv 1)) (pg_sub (pv 0) pe_int set_list))
      (pss_one (ps_ret (pv 3))))) pss_nil)
      (pss_cons (ps_asg (pe_op op_add (pe_ix ix_list (pv 0) pe_int (fun _ _ => rfl)) pe_int) (pg_sub (pv 0) pe_int set_list))
      (pss_cons (ps_set (i := 2) sc_law_take.nd rfl (Or.inl rfl) (pe_op op_mod (pe_callTy call_int1 (by rfl) T.n_int (by decide +kernel) (pa_cons (pe_op op_pow (pe_op op_add (pe_ix ix_list (pv 0) pe_int (fun _ _ => rfl)) (pe_op op_mul pe_int (pe_ix ix_list (pv 0) pe_int (fun _ _ => rfl)))) pe_int) pa_nil)) pe_int))
      (pss_cons (ps_set (i := 2) sc_law_take.nd rfl (Or.inl rfl) (pe_op op_mod (pe_callTy call_int1 (by rfl) T.n_int (by decide +kernel) (pa_cons (pe_op op_pow (pe_op op_add (pv 2) (pe_op op_mul pe_int (pe_ix ix_list (pv 0) pe_int (fun _ _ => rfl)))) pe_int) pa_nil)) pe_int))
      (pss_one (ps_ret (pe_op op_mod (pe_callTy call_int1 (by rfl) T.n_int (by decide +kernel) (pa_cons (pe_op op_fdiv (pv 2) pe_int) pa_nil)) (pv 1)))))))), ?_⟩
    have hS : SqL K H b [.int d, .int m, .int c] := SqL.of hb
    refine ⟨_, rfl, b, _, 0, _, rfl, rfl, hS, ix0, ?_⟩
    walk_at "rd"
    refine ite2 (fun h => ?_) (fun h => ?_)
    · refine ⟨_, rfl, b, _, 0, _, rfl, rfl, hS, ix0, ?_⟩
      walk_at "rd"
      refine ⟨hm, ?_⟩
      refine ⟨_, rfl, b, _, 0, _, rfl, rfl, hS, ix0, ?_⟩
      walk_at "rd"
      refine ⟨wide_div hm hz (by decide) (by decide), ?_⟩
      walk_at "rd"
      refine ⟨b, _, 0, 0, rfl, rfl, hb, rfl, ?_⟩
      walk_at "rd"
      exact k _ _ (Int.emod_nonneg _ (Int.ne_of_gt hm)) (Int.emod_lt_of_pos _ hm) ⟨_, _, _, upd_same, h1, h2, h3, by omega⟩ (Stay.upd (Stay.refl b H))
    · refine ⟨_, rfl, b, _, 2, _, rfl, rfl, hS, ix2, ?_⟩
      walk_at "rd"
      refine ⟨b, _, 2, 2, rfl, rfl, hb, rfl, ?_⟩
      have hS2 : SqL K (upd H b (.lst [.int d, .int m, .int (c + 1)])) b [.int d, .int m, .int (c + 1)] := SqL.of upd_same
      refine ⟨_, rfl, b, _, 1, _, rfl, rfl, hS2, ix1, ?_⟩
      walk_at "rd"
      refine ⟨b, _, 2, _, rfl, rfl, hS2, ix2, ?_⟩
      walk_at "rd"
      refine ⟨⟨by decide, by decide, by show _ < 18446744073709551616; omega⟩, ?_⟩
      walk_at "rd"
      refine ⟨b, _, 2, _, rfl, rfl, hS2, ix2, ?_⟩
      walk_at "rd"
      have a1 := Int.emod_nonneg ((m + 15485863 * (c + 1)) ^ (3 : Int).toNat) (show (2305843009213693921 : Int) ≠ 0 by decide)
      have a2 := Int.emod_lt_of_pos ((m + 15485863 * (c + 1)) ^ (3 : Int).toNat) (show (0 : Int) < 2305843009213693921 by decide)
      refine ⟨⟨by decide, by decide, ?_⟩, ?_⟩
      · show _ < 18446744073709551616
        omega
      walk_at "rd"
      refine ⟨hm, ?_⟩
      exact k _ _ (Int.emod_nonneg _ (Int.ne_of_gt hm)) (Int.emod_lt_of_pos _ hm) ⟨_, _, _, upd_same, h1, h2, by show 0 ≤ c + 1; omega, by show c + 1 ≤ _; omega⟩ (Stay.upd (Stay.refl b H))
end
end Ow

set_option Elab.async false
set_option linter.all false
set_option maxRecDepth 100000
set_option maxHeartbeats 4000000
namespace Ow
open PySem PySem.Spec PyProof.Rows L2
local macro_rules | `(tactic| walk_at "rd") => `(tactic| repeat (first | (refine ⟨_, rfl, ?_⟩) | (refine ⟨_, _, rfl, rfl, ?_⟩) | (refine ⟨rfl, ?_⟩) | (refine ⟨_, _, rfl, ?_⟩) | (refine Or.inl ⟨_, rfl, ?_⟩) | (refine ⟨(by first | (show (0 : Int) < (_ : Int); decide) | exact Or.inl ⟨by decide, by decide⟩ | exact Or.inr ⟨by decide, by decide⟩ | exact ⟨by decide, by decide⟩ | exact ⟨by decide, by decide, by decide⟩), ?_⟩)))
section
variable {P : Program} {w : World} {K : PySem.W.Frag} {mg : Str → Option Value} {base : Heap}
abbrev s_law_number : Stmt := top 22
theorem sc_law_number : FnScope ["bag"] ["bag"] (defScope s_law_number) := ⟨rfl, rfl, rfl, by decide +kernel, rfl, by decide +kernel, by decide +kernel⟩
theorem ok_number {f : Addr} {fd : FuncData} (F : Fun K "_law_number" "_law_number" s_law_number f fd) (T : Txt mg) (c_take : Cal P w K mg base "_law_take" 1 spTake) : FnOk P w K mg base CX0 2 f fd ["bag"] spNumber := by
  refine F.ok sc_law_number (fun vs H Q E h => ?_) (fun cdv A outer s H vs Q E hr h => ?_)
  · obtain ⟨b, n, rfl, _⟩ := h
    rfl
  · obtain ⟨b, n, rfl, hB, hn, k⟩ := h
    have hu := hu_of hr
    refine ⟨_, (pss_cons (ps_if (pt_cmpR op_gt (pe_cal c_take (hr.mono (by decide)) (pa_cons (pv 0) (pa_cons pe_int pa_nil))) pe_int (nomark _)) (pss_one (ps_ret (pe_op op_sub (pe_cal c_take (hr.mono (by decide)) (pa_cons (pv 0) (pa_cons pe_int pa_nil))) pe_int))) pss_nil)
      (pss_one (ps_ret (pe_op op_sub (pe_cal c_take (hr.mono (by decide)) (pa_cons (pv 0) (pa_cons (pe_op op_add (pe_op op_mul pe_int (pe_op op_pow pe_int pe_int)) pe_int) pa_nil))) (pe_op op_pow pe_int pe_int))))), ?_⟩
    walk_at "rd"
    refine ⟨b, n, 3, rfl, hB, by omega, by decide, by decide, fun r H1 r0 r1 B1 S1 => ?_⟩
    walk_at "rd"
    refine ite2 (fun h => ?_) (fun h => ?_)
    · walk_at "rd"
      refine ⟨b, n + 1, 9, rfl, B1, by omega, by decide, by decide, fun r' H2 a0 a1 B2 S2 => ?_⟩
      walk_at "rd"
      exact k _ _ (by omega) B2 (S1.trans S2)
    · walk_at "rd"
      refine ⟨b, n + 1, 2 * 10 ^ 25 + 1, rfl, B1, by omega, by decide, by decide, fun r' H2 a0 a1 B2 S2 => ?_⟩
      walk_at "rd"
      refine k _ _ ?_ B2 (S1.trans S2)
      show (r' - 10 ^ 25).natAbs ≤ 10 ^ 25
      omega
def abc : Str := "abcdefghijklmnopqrstuvwxyz"
theorem abc_at : ∀ j : Fin 26, ∃ c, abc.cps[j.val]? = some c ∧ 97 ≤ c ∧ c ≤ 122 := by
  intro j
  have : ∀ j : Fin 26, (abc.cps[j.val]?).isSome = true ∧ 97 ≤ (abc.cps[j.val]?).getD 0 ∧ (abc.cps[j.val]?).getD 0 ≤ 122 := by decide +kernel
  obtain ⟨h1, h2, h3⟩ := this j
  obtain ⟨c, hc⟩ := Option.isSome_iff_exists.mp h1
  rw [hc] at h2 h3
  exact ⟨c, hc, h2, h3⟩
def Lows (i : Nat) (x : Str) : Prop := x.cps.toList.length = i ∧ (x.cps.toList.all fun c => decide (97 ≤ c) && decide (c ≤ 122)) = true
theorem lows_0 : Lows 0 "" := ⟨rfl, rfl⟩
theorem lows_add {i c : Nat} {x : Str} (h : Lows i x) (h1 : 97 ≤ c) (h2 : c ≤ 122) : Lows (i + 1) (x ++ { cps := #[c] }) := by
  obtain ⟨e, a⟩ := h
  constructor
  · rw [Str.cps_append]
    simp [e]
  · rw [Str.cps_append]
    simp only [Array.toList_append, List.all_append, a, List.all_cons, List.all_nil]
    simp [h1, h2]
theorem lows_sym {i : Nat} {x : Str} (h : Lows i x) (h1 : 1 ≤ i) (h3 : i ≤ 3) : isSym x = true := by
  unfold isSym isLc
  rw [h.1, h.2, decide_eq_true h1, decide_eq_true h3]
  rfl
theorem lows_len {i : Nat} {x : Str} (h : Lows i x) : x.length = i := by
  have := h.1
  rw [Array.length_toList] at this
  exact this
abbrev s_law_symbol : Stmt := top 23
theorem sc_law_symbol : FnScope ["bag", "letters", "turn", "many", "text"] ["bag"] (defScope s_law_symbol) := ⟨rfl, rfl, rfl, by decide +kernel, rfl, by decide +kernel, by decide +kernel⟩
theorem ok_symbol {f : Addr} {fd : FuncData} (F : Fun K "_law_symbol" "_law_symbol" s_law_symbol f fd) (T : Txt mg) (c_take : Cal P w K mg base "_law_take" 1 spTake) : FnOk P w K mg base CX0 2 f fd ["bag"] spSymbol := by
  refine F.ok sc_law_symbol (fun vs H Q E h => ?_) (fun cdv A outer s H vs Q E hr h => ?_)
  · obtain ⟨b, n, rfl, _⟩ := h
    rfl
  · obtain ⟨b, n, rfl, hB, hn, k⟩ := h
    have hu := hu_of hr
    refine ⟨_, (pss_cons (ps_if (pt_cmpR op_eq (pe_cal c_take (hr.mono (by decide)) (pa_cons (pv 0) (pa_cons pe_int pa_nil))) pe_int (nomark _)) (pss_one (ps_ret (pe_op op_add_str pe_str (pe_callTy call_str_int (by rfl) T.n_str (by decide +kernel) (pa_cons (pe_cal c_take (hr.mono (by decide)) (pa_cons (pv 0) (pa_cons (pe_ix ix_list (pe_lst (pa_cons pe_int (pa_cons pe_int (pa_cons pe_int pa_nil)))) (pe_cal c_take (hr.mono (by decide)) (pa_cons (pv 0) (pa_cons pe_int pa_nil))) (fun _ _ => rfl)) pa_nil))) pa_nil))))) pss_nil)
      (pss_cons (ps_set (i := 1) sc_law_symbol.nd rfl (Or.inl rfl) pe_str)
      (pss_cons (ps_par (i := 3) (j := 4) (by rfl) sc_law_symbol.nd rfl rfl (by decide) rfl rfl (pa_cons (pe_ix ix_list (pe_lst (pa_cons pe_int (pa_cons pe_int pa_nil))) (pe_cal c_take (hr.mono (by decide)) (pa_cons (pv 0) (pa_cons pe_int pa_nil))) (fun _ _ => rfl)) (pa_cons pe_str pa_nil)) (by rfl))
      (pss_cons (ps_for PassesOwn.never rfl (pi_range1 rfl T.n_range (pa_cons (pe_op op_add pe_int (pe_cal c_take (hr.mono (by decide)) (pa_cons (pv 0) (pa_cons pe_int pa_nil)))) pa_nil)) (pg_name (i := 2) sc_law_symbol.nd rfl (Or.inl rfl))
      (pss_one (ps_set (i := 4) sc_law_symbol.nd rfl (Or.inl rfl) (pe_op op_add_str (pv 4) (pe_item_str (pv 1) (pe_cal c_take (hr.mono (by decide)) (pa_cons (pv 0) (pa_cons (pv 3) pa_nil))) (fun _ _ => rfl))))))
      (pss_one (ps_ret (pv 4))))))), ?_⟩
    walk_at "rd"
    refine ⟨b, n, 3, rfl, hB, by omega, by decide, by decide, fun r H1 r0 r1 B1 S1 => ?_⟩
    walk_at "rd"
    refine ite2 (fun h => ?_) (fun h => ?_)
    · walk_at "rd"
      refine ⟨by show 3 ≤ sizeLine; decide, fun p hp => ?_⟩
      have B1' : BagAt (upd H1 p (.lst [.int 4, .int 40, .int 1000])) b (n + 1) := B1.same fun a o e => (upd_ne (ne_of_none e hp)).trans e
      walk_at "rd"
      refine ⟨b, n + 1, 3, rfl, B1', by omega, by decide, by decide, fun r' H2 a0 a1 B2 S2 => ?_⟩
      have nb : p ≠ b := fun z => by
        obtain ⟨xs, e⟩ := B1.lst
        rw [← z, hp] at e
        cases e
      have hp2 : H2 p = some (.lst [.int 4, .int 40, .int 1000]) := S2 _ _ nb upd_same
      obtain ⟨m, hm, hm0, hm1⟩ : ∃ m : Int, atI [V.int 4, V.int 40, V.int 1000] r' = some (.int m) ∧ 0 < m ∧ m ≤ 1000 := by
        have : r' = 0 ∨ r' = 1 ∨ r' = 2 := by omega
        rcases this with rfl | rfl | rfl
        · exact ⟨4, rfl, by decide, by decide⟩
        · exact ⟨40, rfl, by decide, by decide⟩
        · exact ⟨1000, rfl, by decide, by decide⟩
      refine ⟨p, _, r', .int m, rfl, rfl, SqL.of hp2, hm, ?_⟩
      walk_at "rd"
      refine ⟨b, n + 1 + 1, m, rfl, B2, by omega, hm0, by omega, fun x H3 x0 x1 B3 S3 => ?_⟩
      have hl : x.natAbs.log2 < 1920 := by
        have h2 : x.natAbs < 2 ^ 11 := by omega
        rcases Nat.eq_zero_or_pos x.natAbs with z | z
        · rw [z]; decide
        · have := (Nat.log2_lt (Nat.pos_iff_ne_zero.mp z)).mpr h2
          omega
      have hx : x = (((⟨x.toNat, by omega⟩ : Fin 1000).val : Nat) : Int) := by
        show x = (x.toNat : Int)
        omega
      have hsym := sym_r ⟨x.toNat, by omega⟩
      rw [← hx] at hsym
      walk_at "rd"
      refine ⟨hl, ?_⟩
      have hz : ((("r" : Str) ++ ((toString x : String) : Str))).length ≤ 61 := by
        have := sym_small hsym
        rw [Array.length_toList] at this
        exact this
      have hzz : ("r" : Str).length + ((toString x : String) : Str).length ≤ sizeLine := by
        rw [← Str.length_append]
        exact Nat.le_trans hz (by decide)
      walk_at "rd"
      refine ⟨hzz, ?_⟩
      exact k _ _ hsym (B3.mono (by omega)) (Stay.trans S1 (Stay.trans (Stay.trans (Stay.of fun a o e => (upd_ne (ne_of_none e hp)).trans e) S2) S3))
    · walk_at "rd"
      refine ⟨by show 2 ≤ sizeLine; decide, fun p hp => ?_⟩
      have B1' : BagAt (upd H1 p (.lst [.int 2, .int 26])) b (n + 1) := B1.same fun a o e => (upd_ne (ne_of_none e hp)).trans e
      walk_at "rd"
      refine ⟨b, n + 1, 2, rfl, B1', by omega, by decide, by decide, fun r' H2 a0 a1 B2 S2 => ?_⟩
      have nb : p ≠ b := fun z => by
        obtain ⟨xs, e⟩ := B1.lst
        rw [← z, hp] at e
        cases e
      have hp2 : H2 p = some (.lst [.int 2, .int 26]) := S2 _ _ nb upd_same
      obtain ⟨m, hm, hm0, hm1⟩ : ∃ m : Int, atI [V.int 2, V.int 26] r' = some (.int m) ∧ 0 < m ∧ m ≤ 26 := by
        have : r' = 0 ∨ r' = 1 := by omega
        rcases this with rfl | rfl
        · exact ⟨2, rfl, by decide, by decide⟩
        · exact ⟨26, rfl, by decide, by decide⟩
      refine ⟨p, _, r', .int m, rfl, rfl, SqL.of hp2, hm, ?_⟩
      have S12 : Stay b H H2 := Stay.trans S1 (Stay.trans (Stay.of fun a o e => (upd_ne (ne_of_none e hp)).trans e) S2)
      walk_at "rd"
      refine ⟨b, n + 1 + 1, 3, rfl, B2, by omega, by decide, by decide, fun q H3 q0 q1 B3 S3 => ?_⟩
      walk_at "rd"
      refine ⟨by omega, by omega, ?_⟩
      refine for_range (lo := 0) (fun i σ H' => ∃ (o : Option V) (x : Str), σ = [some (.ref b), some (.str abc), o, some (.int m), some (.str x)] ∧ Lows i x ∧ BagAt H' b (n + 3 + i) ∧ Stay b H H') ⟨none, _, rfl, lows_0, B3, S12.trans S3⟩ ?_ ?_
      · rintro i σ H' hi ⟨o, x, rfl, hx, B4, S4⟩
        walk_at "rd"
        refine ⟨b, n + 3 + i, m, rfl, B4, by omega, hm0, by omega, fun j H5 j0 j1 B5 S5 => ?_⟩
        obtain ⟨c, hc, c1, c2⟩ := abc_at ⟨j.toNat, by omega⟩
        have hj : j < (abc.length : Int) := by
          show j < 26
          omega
        have hj2 : j < 2 ^ 63 := by omega
        have hxl : x.length + 1 ≤ sizeLine := by
          rw [lows_len hx]
          exact Nat.le_trans (m := 64) (by omega) (by decide)
        refine ⟨abc, j, c, rfl, rfl, j0, hj2, hj, hc, ?_⟩
        walk_at "rd"
        refine ⟨hxl, ?_⟩
        exact ⟨_, _, rfl, lows_add hx c1 c2, B5, S4.trans S5⟩
      · rintro σ H' ⟨o, x, rfl, hx, B4, S4⟩
        walk_at "rd"
        exact k _ _ (lows_sym hx (by omega) (by omega)) (B4.mono (by omega)) S4
theorem okPs_nil : OkPs [] := ⟨fun _ h => (by cases h), fun _ h => (by cases h)⟩
theorem okPs_snoc {ps : Ps} {x : Str} {v : Int} (h : OkPs ps) (hx : isSym x = true) (hv : v.natAbs ≤ 10 ^ 25) : OkPs (ps ++ [(x, v)]) := by
  constructor
  · intro q hq
    rcases List.mem_append.mp hq with hq | hq
    · exact h.sym q hq
    · cases List.mem_singleton.mp hq
      exact hx
  · intro q hq
    rcases List.mem_append.mp hq with hq | hq
    · exact h.big q hq
    · cases List.mem_singleton.mp hq
      exact hv
abbrev s_law_pairs : Stmt := top 24
theorem sc_law_pairs : FnScope ["bag", "many", "found", "turn", "symbol"] ["bag", "many"] (defScope s_law_pairs) := ⟨rfl, rfl, rfl, by decide +kernel, rfl, by decide +kernel, by decide +kernel⟩
theorem ok_pairs {f : Addr} {fd : FuncData} (F : Fun K "_law_pairs" "_law_pairs" s_law_pairs f fd) (T : Txt mg) (c_take : Cal P w K mg base "_law_take" 1 spTake) (c_number : Cal P w K mg base "_law_number" 2 spNumber) (c_symbol : Cal P w K mg base "_law_symbol" 2 spSymbol) : FnOk P w K mg base CX0 3 f fd ["bag", "many"] spPairs := by
  refine F.ok sc_law_pairs (fun vs H Q E h => ?_) (fun cdv A outer s H vs Q E hr h => ?_)
  · obtain ⟨b, n, many, rfl, _⟩ := h
    rfl
  · obtain ⟨b, n, many, rfl, hB, hn, hm0, hm1, k⟩ := h
    have hu := hu_of hr
    refine ⟨_, (pss_cons (ps_set (i := 2) sc_law_pairs.nd rfl (Or.inl rfl) (pe_lst pa_nil))
      (pss_cons (ps_for PassesOwn.never rfl (pi_range1 rfl T.n_range (pa_cons (pe_cal c_take (hr.mono (by decide)) (pa_cons (pv 0) (pa_cons (pv 1) pa_nil))) pa_nil)) (pg_name (i := 3) sc_law_pairs.nd rfl (Or.inl rfl))
      (pss_cons (ps_set (i := 4) sc_law_pairs.nd rfl (Or.inl rfl) (pe_cal c_symbol (hr.mono (by decide)) (pa_cons (pv 0) pa_nil)))
      (pss_cons (ps_if (PW.pt (pw_and (pt_cmpR (op_neD hr.units) (pv 2) (pe_lst pa_nil) (nomark _)) (pw_and1 (pt_cmpR op_eq (pe_cal c_take (hr.mono (by decide)) (pa_cons (pv 0) (pa_cons pe_int pa_nil))) pe_int (nomark _))))) (pss_one (ps_set (i := 4) sc_law_pairs.nd rfl (Or.inl rfl) (pe_ix ix_tup (pe_ix ix_list (pv 2) (pe_cal c_take (hr.mono (by decide)) (pa_cons (pv 0) (pa_cons (pe_callB call_len_seq (by rfl) T.n_len (by decide +kernel) (pa_cons (pv 2) pa_nil)) pa_nil))) (fun _ _ => rfl)) pe_int (fun _ _ => rfl)))) pss_nil)
      (pss_one (ps_expr (pe_bm PySem.F.plainAttrs_list PySem.F.slot_list_append PySem.F.type_list_append mt_append (pv 2) (pa_cons (pe_tup (pa_cons (pv 4) (pa_cons (pe_cal c_number (hr.mono (by decide)) (pa_cons (pv 0) pa_nil)) pa_nil))) pa_nil)))))))
      (pss_one (ps_ret (pv 2))))), ?_⟩
    refine ⟨by show 0 ≤ sizeLine; decide, fun l hl => ?_⟩
    have nb : l ≠ b := fun z => by
      obtain ⟨xs, e⟩ := hB.lst
      rw [← z, hl] at e
      cases e
    have S0 : Same H (upd H l (.lst [])) := fun a o e => (upd_ne (ne_of_none e hl)).trans e
    walk_at "rd"
    refine ⟨b, n, (many : Int), rfl, hB.same S0, by omega, by omega, by omega, fun q H3 q0 q1 B3 S3 => ?_⟩
    walk_at "rd"
    refine ⟨by omega, by omega, ?_⟩
    refine for_range (lo := 0) (fun i σ H' => ∃ (o o' : Option V) (ps : Ps), σ = [some (.ref b), some (.int (many : Int)), some (.ref l), o, o'] ∧ PairsAt H' l ps ∧ OkPs ps ∧ ps.length = i ∧ BagAt H' b (n + 1 + 14 * i) ∧ Stay b H H') ⟨none, none, [], rfl, ⟨[], S3 _ _ nb upd_same, .nil⟩, okPs_nil, rfl, B3, (Stay.of S0).trans S3⟩ ?_ ?_
    · rintro i σ H' hi ⟨o, o', ps, rfl, hP, hO, hL, B4, S4⟩
      walk_at "rd"
      refine ⟨b, n + 1 + 14 * i, rfl, B4, by omega, fun x H5 hx B5 S5 => ?_⟩
      have hP5 := hP.stay S5 B4.lst nb
      have SS5 := S4.trans S5
      walk_at "rd"
      refine ⟨by show 0 ≤ sizeLine; decide, fun z hz => ?_⟩
      have Sz : Same H5 (upd H5 z (.lst [])) := fun a o e => (upd_ne (ne_of_none e hz)).trans e
      have hPz := hP5.same Sz
      have Bz := B5.same Sz
      have SSz := SS5.trans (Stay.of Sz)
      obtain ⟨xs, hxs, hpp⟩ := hPz
      refine ⟨_, _, .lst (SqL.of hxs) (dpAll_ps hpp), .lst (SqL.of upd_same) .nil, shapedL hO.sym, rfl, ?_⟩
      rw [eqv_nil]
      refine ⟨_, rfl, ?_⟩
      refine ite2 (fun h => ?_) (fun h => ?_)
      · walk_at "rd"
        refine ⟨b, _, 4, rfl, Bz, by omega, by decide, by decide, fun c H6 c0 c1 B6 S6 => ?_⟩
        walk_at "rd"
        have SS6 := SSz.trans S6
        have hP6 : PairsAt H6 l ps := PairsAt.stay ⟨xs, hxs, hpp⟩ S6 Bz.lst nb
        refine ite2 (fun h' => ?_) (fun h' => ?_)
        · obtain ⟨xs6, hx6, hp6⟩ := hP6
          have hl6 := paired_len hp6
          have hpos : 0 < ps.length := by
            cases ps with
            | nil => cases h
            | cons _ _ => exact Nat.succ_pos _
          walk_at "rd"
          refine ⟨l, xs6, rfl, .inl (SqL.of hx6), ?_⟩
          refine ⟨b, _, (xs6.length : Int), rfl, B6, by omega, by omega, by omega, fun j H7 j0 j1 B7 S7 => ?_⟩
          have hx7 := S7 _ _ nb hx6
          obtain ⟨y, hy⟩ : ∃ y, xs6[j.toNat]? = some y := ⟨_, List.getElem?_eq_getElem (by omega)⟩
          obtain ⟨q, hq, hqq⟩ := paired_at hp6 hy
          obtain ⟨t, rfl, ht⟩ := hqq.stay S7 B6.lst
          have hjj : atI xs6 j = some (.ref t) := by
            have := atI_nat hy
            rw [Int.toNat_of_nonneg j0] at this
            exact this
          have hP7 : PairsAt H7 l ps := PairsAt.stay ⟨xs6, hx6, hp6⟩ S7 B6.lst nb
          have SS7 := SS6.trans S7
          have hq1 : isSym q.1 = true := hO.sym q (List.mem_of_getElem? hq)
          refine ⟨l, xs6, j, .ref t, rfl, rfl, SqL.of hx7, hjj, ?_⟩
          walk_at "rd"
          refine ⟨t, _, 0, _, rfl, rfl, SqT.of ht, rfl, ?_⟩
          walk_at "rd"
          refine ⟨.inl ⟨rfl, _, SqL.of (Exists.choose_spec hP7).1⟩, ?_⟩
          walk_at "rd"
          refine ⟨b, _, rfl, B7, by omega, fun v H8 hv B8 S8 => ?_⟩
          walk_at "rd"
          refine ⟨by show 2 ≤ sizeLine; decide, fun t8 ht8 => ?_⟩
          have hP8 : PairsAt H8 l ps := PairsAt.stay hP7 S8 B7.lst nb
          obtain ⟨xs8, hx8, hl8, hP9⟩ := pairs_push (x := q.1) (v := v) hP8 ht8
          have hz8 : xs8.length < sizeLine := Nat.lt_of_lt_of_le (m := 65) (by omega) (by decide)
          refine ⟨l, xs8, .ref t8, rfl, rfl, hx8, hz8, ?_⟩
          have SS8 := Stay.trans SS7 S8
          refine ⟨_, _, _, rfl, hP9, okPs_snoc hO hq1 hv, by rw [List.length_append, hL]; rfl, ((B8.upd (fun z => ?_)).upd nb.symm).mono (by omega), fun a o na e => ?_⟩
          · obtain ⟨ys, e⟩ := B8.lst
            rw [z, ht8] at e
            cases e
          · rw [upd_ne (ne_of_none e hl), upd_ne (ne_of_none (SS8 a o na e) ht8)]
            exact SS8 a o na e
        · walk_at "rd"
          refine ⟨.inl ⟨rfl, _, SqL.of (Exists.choose_spec hP6).1⟩, ?_⟩
          walk_at "rd"
          refine ⟨b, _, rfl, B6, by omega, fun v H8 hv B8 S8 => ?_⟩
          walk_at "rd"
          refine ⟨by show 2 ≤ sizeLine; decide, fun t8 ht8 => ?_⟩
          have hP8 : PairsAt H8 l ps := PairsAt.stay hP6 S8 B6.lst nb
          obtain ⟨xs8, hx8, hl8, hP9⟩ := pairs_push (x := x) (v := v) hP8 ht8
          have hz8 : xs8.length < sizeLine := Nat.lt_of_lt_of_le (m := 65) (by omega) (by decide)
          refine ⟨l, xs8, .ref t8, rfl, rfl, hx8, hz8, ?_⟩
          have SS8 := Stay.trans SS6 S8
          refine ⟨_, _, _, rfl, hP9, okPs_snoc hO hx hv, by rw [List.length_append, hL]; rfl, ((B8.upd (fun z => ?_)).upd nb.symm).mono (by omega), fun a o na e => ?_⟩
          · obtain ⟨ys, e⟩ := B8.lst
            rw [z, ht8] at e
            cases e
          · rw [upd_ne (ne_of_none e hl), upd_ne (ne_of_none (SS8 a o na e) ht8)]
            exact SS8 a o na e
      · have hPz : PairsAt (upd H5 z (.lst [])) l ps := ⟨xs, hxs, hpp⟩
        walk_at "rd"
        refine ⟨.inl ⟨rfl, _, SqL.of (Exists.choose_spec hPz).1⟩, ?_⟩
        walk_at "rd"
        refine ⟨b, _, rfl, Bz, by omega, fun v H8 hv B8 S8 => ?_⟩
        walk_at "rd"
        refine ⟨by show 2 ≤ sizeLine; decide, fun t8 ht8 => ?_⟩
        have hP8 : PairsAt H8 l ps := PairsAt.stay hPz S8 Bz.lst nb
        obtain ⟨xs8, hx8, hl8, hP9⟩ := pairs_push (x := x) (v := v) hP8 ht8
        have hz8 : xs8.length < sizeLine := Nat.lt_of_lt_of_le (m := 65) (by omega) (by decide)
        refine ⟨l, xs8, .ref t8, rfl, rfl, hx8, hz8, ?_⟩
        have SS8 := Stay.trans SSz S8
        refine ⟨_, _, _, rfl, hP9, okPs_snoc hO hx hv, by rw [List.length_append, hL]; rfl, ((B8.upd (fun z => ?_)).upd nb.symm).mono (by omega), fun a o na e => ?_⟩
        · obtain ⟨ys, e⟩ := B8.lst
          rw [z, ht8] at e
          cases e
        · rw [upd_ne (ne_of_none e hl), upd_ne (ne_of_none (SS8 a o na e) ht8)]
          exact SS8 a o na e
    · rintro σ H' ⟨o, o', ps, rfl, hP, hO, hL, B4, S4⟩
      walk_at "rd"
      exact k _ _ _ nb hl hP hO (by omega) (B4.mono (by omega)) S4
end
end Ow

set_option Elab.async false
set_option linter.all false
set_option maxRecDepth 100000
set_option maxHeartbeats 4000000
namespace Ow
open PySem PySem.Spec PyProof.Rows L2
local macro_rules | `(tactic| walk_at "rd") => `(tactic| repeat (first | (refine ⟨_, rfl, ?_⟩) | (refine ⟨_, _, rfl, rfl, ?_⟩) | (refine ⟨rfl, ?_⟩) | (refine ⟨_, _, rfl, ?_⟩) | (refine Or.inl ⟨_, rfl, ?_⟩) | (refine ⟨(by first | (show (0 : Int) < (_ : Int); decide) | exact Or.inl ⟨by decide, by decide⟩ | exact Or.inr ⟨by decide, by decide⟩ | exact ⟨by decide, by decide⟩ | exact ⟨by decide, by decide, by decide⟩), ?_⟩)))
def spSums4 : Sp := fun vs H Q _ => ∃ (l : Addr) (ps : Ps), vs = [.ref l] ∧ PairsAt H l ps ∧ (∀ q ∈ ps, isSym q.1 = true) ∧ ps.length < 32 ∧
  ∀ d m H', H d = none → DictAt H' d m → m.length ≤ ps.length → (∀ s, co m s = co ps s) → Same H H' → Q (.ref d) H'
def spTurned : Sp := fun vs H Q _ => ∃ (b l : Addr) (n : Nat) (ps : Ps), vs = [.ref b, .ref l] ∧ BagAt H b n ∧ n < 800000000 ∧ PairsAt H l ps ∧ OkPs ps ∧ l ≠ b ∧ ps.length ≤ 8 ∧
  ∀ l2 ps2 H', H l2 = none → l2 ≠ b → PairsAt H' l2 ps2 → (∀ q ∈ ps2, isSym q.1 = true) → (∀ q ∈ ps2, q.2.natAbs ≤ 2 * 10 ^ 25) → ps2.length = 2 * ps.length → (∀ s, co ps2 s = co ps s) → BagAt H' b (n + 100) → Stay b H H' → Q (.ref l2) H'
def spSame : Sp := fun vs H Q _ => ∃ (d1 d2 : Addr) (m1 m2 : Ps), vs = [.ref d1, .ref d2] ∧ DictAt H d1 m1 ∧ DictAt H d2 m2 ∧ m1.length < 64 ∧ m2.length < 64 ∧
  ∀ (r : Bool) H', (r = true ↔ ∀ s, co m1 s = co m2 s) → Same H H' → Q (.bl r) H'
theorem paired_take {α β : Type} {F : α → β → Prop} : ∀ {l : List α} {m : List β} (n : Nat), Paired F l m → Paired F (l.take n) (m.take n)
  | _, _, 0, _ => .nil
  | _, _, _ + 1, .nil => .nil
  | _, _, n + 1, .cons h r => .cons h (paired_take n r)
theorem paired_drop {α β : Type} {F : α → β → Prop} : ∀ {l : List α} {m : List β} (n : Nat), Paired F l m → Paired F (l.drop n) (m.drop n)
  | _, _, 0, h => h
  | _, _, _ + 1, .nil => .nil
  | _, _, n + 1, .cons _ r => paired_drop n r
theorem cut_lo {xs : List V} {r : Nat} (h : r ≤ xs.length) : cutV xs none (some (r : Int)) = xs.take r := by
  unfold cutV
  rw [HT.sIx_none, HT.sIx_nat, Nat.min_eq_left h]
  rfl
theorem cut_hi {xs : List V} {r : Nat} (h : r ≤ xs.length) : cutV xs (some (r : Int)) none = xs.drop r := by
  unfold cutV
  rw [HT.sIx_none, HT.sIx_nat, Nat.min_eq_left h]
  exact List.take_of_length_le (by rw [List.length_drop]; exact Nat.le_refl _)
theorem keys_kvI (m : Ps) : ((kvI m).map fun kv => kV kv.1) = m.map fun q => V.str q.1 := by
  unfold kvI
  rw [List.map_map]
  rfl
section
variable {P : Program} {w : World} {K : PySem.W.Frag} {mg : Str → Option Value} {base : Heap}
abbrev s_law_sums : Stmt := top 25
theorem sc_law_sums : FnScope ["pairs", "found", "symbol", "number"] ["pairs"] (defScope s_law_sums) := ⟨rfl, rfl, rfl, by decide +kernel, rfl, by decide +kernel, by decide +kernel⟩
theorem ok_sums {f : Addr} {fd : FuncData} (F : Fun K "_law_sums" "_law_sums" s_law_sums f fd) (T : Txt mg) : FnOk P w K mg base CX0 1 f fd ["pairs"] spSums4 := by
  refine F.ok sc_law_sums (fun vs H Q E h => ?_) (fun cdv A outer s H vs Q E hr h => ?_)
  · obtain ⟨l, ps, rfl, _⟩ := h
    rfl
  · obtain ⟨l, ps, rfl, ⟨xs, hl, hp⟩, hO, hL, k⟩ := h
    have hu := hu_of hr
    refine ⟨_, (pss_cons (ps_set (i := 1) sc_law_sums.nd rfl (Or.inl rfl) pe_dnewK)
      (pss_cons (ps_for PassesOwn.never rfl (pi_list (pv 0)) (pg_tup rfl (pgs_cons (pg_name (i := 2) sc_law_sums.nd rfl (Or.inl rfl)) (pgs_cons (pg_name (i := 3) sc_law_sums.nd rfl (Or.inl rfl)) pgs_nil)))
      (pss_one (ps_dput hu (pv 1) (pv 2) (pe_op op_add (pe_dget2 hu (pv 1) (pv 2) pe_int ⟨rfl, rfl, rfl, rfl⟩) (pv 3)) rfl)))
      (pss_one (ps_ret (pv 1))))), ?_⟩
    refine fun d hd => ?_
    have S0 : Same H (upd H d (.dK [])) := same_new (fun _ _ e => e) hd
    walk_at "rd"
    refine ⟨⟨_, SqL.of (S0 _ _ hl)⟩, for_list (a := l) (xs := xs) (fun i σ H' => ∃ (o o' : Option V) (m : Ps), σ = [some (.ref l), some (.ref d), o, o'] ∧ DictAt H' d m ∧ m.length ≤ i ∧ (∀ s, co m s = co (ps.take i) s) ∧ Same H H') ⟨none, none, [], rfl, DictAt.new, Nat.le_refl _, fun _ => rfl, S0⟩ (fun i σ H' _ ⟨_, _, _, _, _, _, _, s5⟩ => SqL.of (s5 _ _ hl)) ?_ ?_⟩
    · rintro i x σ H' hi ⟨o, o', m, rfl, hD, hm, hc, S5⟩
      obtain ⟨⟨x, v⟩, hq, t, rfl, ht⟩ := paired_at hp hi
      have hx : isSym x = true := hO _ (List.mem_of_getElem? hq)
      have hz : (kvI m).length < sizeLine := by
        rw [kvI_len]
        have : i < ps.length := (List.getElem?_eq_some_iff.mp hq).1
        exact Nat.lt_of_lt_of_le (m := 64) (by omega) (by decide)
      refine ⟨t, _, rfl, SqT.of (S5 _ _ ht), rfl, ?_⟩
      walk_at "rd"
      refine ⟨.inl ⟨_, .inl hD.at_⟩, ?_⟩
      walk_at "rd"
      refine ⟨_, DGet.k (k := Sum.inr x) hD.at_, ?_⟩
      rw [kvI_val m x hD.nd]
      walk_at "rd"
      refine ⟨d, _, rfl, DPut.k (k := Sum.inr x) hD.at_ hz, ?_⟩
      refine ⟨_, _, _, rfl, hD.put x _ hx, ?_, fun s => ?_, same_over S5 hd⟩
      · exact Nat.le_trans (putS_len _ _ _) (by omega)
      · rw [co_putS m x _ s hD.nd, take_snoc hq, co_snoc]
        by_cases e : s = x
        · rw [if_pos e, if_pos e, ← hc s, e]
        · rw [if_neg e, if_neg e, hc s, Int.add_zero]
    · rintro σ H' ⟨o, o', m, rfl, hD, hm, hc, S5⟩
      walk_at "rd"
      refine k _ _ _ hd hD ?_ (fun s => ?_) S5
      · rw [← paired_len hp]
        exact hm
      · rw [hc s, paired_len hp, List.take_length]
abbrev s_law_turned : Stmt := top 26
theorem sc_law_turned : FnScope ["bag", "pairs", "found", "symbol", "number", "part", "place"] ["bag", "pairs"] (defScope s_law_turned) := ⟨rfl, rfl, rfl, by decide +kernel, rfl, by decide +kernel, by decide +kernel⟩
theorem ok_turned {f : Addr} {fd : FuncData} (F : Fun K "_law_turned" "_law_turned" s_law_turned f fd) (T : Txt mg) (c_take : Cal P w K mg base "_law_take" 1 spTake) (c_number : Cal P w K mg base "_law_number" 2 spNumber) : FnOk P w K mg base CX0 3 f fd ["bag", "pairs"] spTurned := by
  refine F.ok sc_law_turned (fun vs H Q E h => ?_) (fun cdv A outer s H vs Q E hr h => ?_)
  · obtain ⟨b, l, n, ps, rfl, _⟩ := h
    rfl
  · obtain ⟨b, l, n, ps, rfl, hB, hn, ⟨xs, hx, hp⟩, hO, lb, hL, k⟩ := h
    have hu := hu_of hr
    refine ⟨_, (pss_cons (ps_set (i := 2) sc_law_turned.nd rfl (Or.inl rfl) (pe_lst pa_nil))
      (pss_cons (ps_for PassesOwn.never rfl (pi_list (pv 1)) (pg_tup rfl (pgs_cons (pg_name (i := 3) sc_law_turned.nd rfl (Or.inl rfl)) (pgs_cons (pg_name (i := 4) sc_law_turned.nd rfl (Or.inl rfl)) pgs_nil)))
      (pss_cons (ps_set (i := 5) sc_law_turned.nd rfl (Or.inl rfl) (pe_cal c_number (hr.mono (by decide)) (pa_cons (pv 0) pa_nil)))
      (pss_cons (ps_set (i := 6) sc_law_turned.nd rfl (Or.inl rfl) (pe_cal c_take (hr.mono (by decide)) (pa_cons (pv 0) (pa_cons (pe_op op_add (pe_callB call_len_seq (by rfl) T.n_len (by decide +kernel) (pa_cons (pv 2) pa_nil)) pe_int) pa_nil))))
      (pss_one (ps_set (i := 2) sc_law_turned.nd rfl (Or.inl rfl) (pe_op op_cat (pe_op op_cat (pe_op op_cat (pe_slice sl_list (pv 2) po_none (po_some (pv 6))) (pe_lst (pa_cons (pe_tup (pa_cons (pv 3) (pa_cons (pe_op op_sub (pv 4) (pv 5)) pa_nil))) pa_nil))) (pe_slice sl_list (pv 2) (po_some (pv 6)) po_none)) (pe_lst (pa_cons (pe_tup (pa_cons (pv 3) (pa_cons (pv 5) pa_nil))) pa_nil))))))))
      (pss_one (ps_ret (pv 2))))), ?_⟩
    refine ⟨by show 0 ≤ sizeLine; decide, fun g hg => ?_⟩
    have newb : ∀ {H' : Hp} {n : Nat} {x : Addr}, BagAt H' b n → H' x = none → x ≠ b := fun hB hx z => by
      obtain ⟨ys, e⟩ := hB.lst
      rw [← z, hx] at e
      cases e
    have S0 := Stay.of (b := b) (same_new (o := .lst []) (fun _ _ e => e) hg)
    have backS : ∀ {H' : Hp} {x : Addr}, Stay b H H' → x ≠ b → H' x = none → H x = none := fun {H' x} s ne e => by
      cases q : H x with
      | none => rfl
      | some o => rw [s _ _ ne q] at e; cases e
    have gb0 := newb hB hg
    walk_at "rd"
    refine ⟨⟨_, SqL.of (S0 _ _ lb hx)⟩, for_list (a := l) (xs := xs) (fun i σ H' => ∃ (o3 o4 o5 o6 : Option V) (g' : Addr) (qs : Ps), σ = [some (.ref b), some (.ref l), some (.ref g'), o3, o4, o5, o6] ∧ PairsAt H' g' qs ∧ g' ≠ b ∧ H g' = none ∧ (∀ q ∈ qs, isSym q.1 = true) ∧ (∀ q ∈ qs, q.2.natAbs ≤ 2 * 10 ^ 25) ∧ qs.length = 2 * i ∧ (∀ s, co qs s = co (ps.take i) s) ∧ BagAt H' b (n + 3 * i) ∧ Stay b H H') ⟨none, none, none, none, g, [], rfl, ⟨[], upd_same, .nil⟩, gb0, hg, fun _ h => (by cases h), fun _ h => (by cases h), rfl, fun _ => rfl, hB.upd gb0.symm, S0⟩ (fun i σ H' _ ⟨_, _, _, _, _, _, _, _, _, _, _, _, _, _, _, s5⟩ => SqL.of (s5 _ _ lb hx)) ?_ ?_⟩
    · rintro i v σ H' hi ⟨o3, o4, o5, o6, g', qs, rfl, PQ, gb, hgn, sym, big, ql, hc, B2, S2⟩
      obtain ⟨⟨y, z⟩, hq, t, rfl, ht⟩ := paired_at hp hi
      have hsy : isSym y = true := hO.sym _ (List.mem_of_getElem? hq)
      have hz : z.natAbs ≤ 10 ^ 25 := hO.big _ (List.mem_of_getElem? hq)
      have hil : i < ps.length := (List.getElem?_eq_some_iff.mp hq).1
      have htb : t ≠ b := fun e => by
        obtain ⟨ys, e2⟩ := hB.lst
        rw [← e, ht] at e2
        cases e2
      refine ⟨t, _, rfl, SqT.of (S2 _ _ htb ht), rfl, ?_⟩
      walk_at "rd"
      refine ⟨b, _, rfl, B2, by omega, fun v H3 hv B3 S3 => ?_⟩
      obtain ⟨ys, hy, hpq⟩ := PQ.stay S3 B2.lst gb
      have S23 := S2.trans S3
      have yl : ys.length = 2 * i := by rw [paired_len hpq, ql]
      walk_at "rd"
      refine ⟨g', _, rfl, .inl (SqL.of hy), ?_⟩
      walk_at "rd"
      refine ⟨b, _, _, rfl, B3, by omega, by omega, by omega, fun r H4 r0 r1 B4 S4 => ?_⟩
      obtain ⟨r, rfl⟩ := Int.eq_ofNat_of_zero_le r0
      have hrl : r ≤ ys.length := by omega
      have hy4 := S4 _ _ gb hy
      have hpq4 := paired_map (fun _ _ q => PairAt.stay q S4 B3.lst) hpq
      have S24 := S23.trans S4
      clear S2 S3 S4 S23 PQ hpq hy B2 B3
      have big1 : sizeLine = 16777216 := by decide
      walk_at "rd"
      refine ⟨g', ys, rfl, SqL.of hy4, fun p1 hp1 => ?_⟩
      rw [cut_lo hrl]
      have s1 := same_new (o := .lst (ys.take r)) (fun _ _ e => e) hp1
      have a1 : upd H4 p1 (.lst (ys.take r)) p1 = some (.lst (ys.take r)) := upd_same
      generalize upd H4 p1 (.lst (ys.take r)) = A1 at s1 a1 ⊢
      walk_at "rd"
      refine ⟨by show 2 ≤ sizeLine; decide, fun t1 ht1 => ?_⟩
      have s2 := same_new (o := .tup [.str y, .int (z - v)]) (fun _ _ e => e) ht1
      have a2 : upd A1 t1 (.tup [.str y, .int (z - v)]) t1 = some (.tup [.str y, .int (z - v)]) := upd_same
      generalize upd A1 t1 (.tup [.str y, .int (z - v)]) = A2 at s2 a2 ⊢
      walk_at "rd"
      refine ⟨by show 1 ≤ sizeLine; decide, fun l3 hl3 => ?_⟩
      have s3 := same_new (o := .lst [.ref t1]) (fun _ _ e => e) hl3
      have a3 : upd A2 l3 (.lst [.ref t1]) l3 = some (.lst [.ref t1]) := upd_same
      generalize upd A2 l3 (.lst [.ref t1]) = A3 at s3 a3 ⊢
      walk_at "rd"
      refine ⟨p1, l3, ys.take r, [.ref t1], rfl, rfl, s3 _ _ (s2 _ _ a1), a3, by rw [List.length_take]; show _ + 1 ≤ _; omega, fun p2 hp2 => ?_⟩
      have s4 := same_new (o := .lst (ys.take r ++ [.ref t1])) (fun _ _ e => e) hp2
      have a4 : upd A3 p2 (.lst (ys.take r ++ [.ref t1])) p2 = some (.lst (ys.take r ++ [.ref t1])) := upd_same
      generalize upd A3 p2 (.lst (ys.take r ++ [.ref t1])) = A4 at s4 a4 ⊢
      have t4 : Same H4 A4 := same_trans (same_trans (same_trans s1 s2) s3) s4
      walk_at "rd"
      refine ⟨g', ys, rfl, SqL.of (t4 _ _ hy4), fun p3 hp3 => ?_⟩
      rw [cut_hi hrl]
      have s5 := same_new (o := .lst (ys.drop r)) (fun _ _ e => e) hp3
      have a5 : upd A4 p3 (.lst (ys.drop r)) p3 = some (.lst (ys.drop r)) := upd_same
      generalize upd A4 p3 (.lst (ys.drop r)) = A5 at s5 a5 ⊢
      walk_at "rd"
      refine ⟨p2, p3, ys.take r ++ [.ref t1], ys.drop r, rfl, rfl, s5 _ _ a4, a5, by rw [List.length_append, List.length_take, List.length_drop]; show _ + 1 + _ ≤ _; omega, fun p4 hp4 => ?_⟩
      have s6 := same_new (o := .lst (ys.take r ++ [.ref t1] ++ ys.drop r)) (fun _ _ e => e) hp4
      have a6 : upd A5 p4 (.lst (ys.take r ++ [.ref t1] ++ ys.drop r)) p4 = some (.lst (ys.take r ++ [.ref t1] ++ ys.drop r)) := upd_same
      generalize upd A5 p4 (.lst (ys.take r ++ [.ref t1] ++ ys.drop r)) = A6 at s6 a6 ⊢
      walk_at "rd"
      refine ⟨by show 2 ≤ sizeLine; decide, fun t2 ht2 => ?_⟩
      have s7 := same_new (o := .tup [.str y, .int v]) (fun _ _ e => e) ht2
      have a7 : upd A6 t2 (.tup [.str y, .int v]) t2 = some (.tup [.str y, .int v]) := upd_same
      generalize upd A6 t2 (.tup [.str y, .int v]) = A7 at s7 a7 ⊢
      walk_at "rd"
      refine ⟨by show 1 ≤ sizeLine; decide, fun l4 hl4 => ?_⟩
      have s8 := same_new (o := .lst [.ref t2]) (fun _ _ e => e) hl4
      have a8 : upd A7 l4 (.lst [.ref t2]) l4 = some (.lst [.ref t2]) := upd_same
      generalize upd A7 l4 (.lst [.ref t2]) = A8 at s8 a8 ⊢
      walk_at "rd"
      refine ⟨p4, l4, ys.take r ++ [.ref t1] ++ ys.drop r, [.ref t2], rfl, rfl, s8 _ _ (s7 _ _ a6), a8, by rw [List.length_append, List.length_append, List.length_take, List.length_drop]; show _ + 1 + _ + 1 ≤ _; omega, fun p5 hp5 => ?_⟩
      have s9 := same_new (o := .lst (ys.take r ++ [.ref t1] ++ ys.drop r ++ [.ref t2])) (fun _ _ e => e) hp5
      have t48 : Same A4 A8 := same_trans (same_trans (same_trans s5 s6) s7) s8
      have t8 : Same H4 A8 := same_trans t4 t48
      have t9 := same_trans t8 s9
      have B9 := B4.same t9
      have p5b := newb (B4.same t8) hp5
      have pa : Paired (PairAt (upd A8 p5 (.lst (ys.take r ++ [.ref t1] ++ ys.drop r ++ [.ref t2])))) (ys.take r ++ [.ref t1] ++ ys.drop r ++ [.ref t2]) (qs.take r ++ [(y, z - v)] ++ qs.drop r ++ [(y, v)]) := by
        have q0 := paired_map (fun _ _ q => PairAt.same q t9) hpq4
        have x1 : PairAt (upd A8 p5 (.lst (ys.take r ++ [.ref t1] ++ ys.drop r ++ [.ref t2]))) (.ref t1) (y, z - v) := ⟨t1, rfl, s9 _ _ (t48 _ _ (s4 _ _ (s3 _ _ a2)))⟩
        have x2 : PairAt (upd A8 p5 (.lst (ys.take r ++ [.ref t1] ++ ys.drop r ++ [.ref t2]))) (.ref t2) (y, v) := ⟨t2, rfl, s9 _ _ (s8 _ _ a7)⟩
        exact paired_snoc x2 (paired_app (paired_drop r q0) (paired_snoc x1 (paired_take r q0)))
      refine ⟨_, _, _, _, p5, _, rfl, ⟨_, upd_same, pa⟩, p5b, backS (S24.trans (Stay.of t8)) p5b hp5, fun q hq' => ?_, fun q hq' => ?_, ?_, fun s => ?_, B9.mono (by omega), S24.trans (Stay.of t9)⟩
      · simp only [List.mem_append, List.mem_singleton] at hq'
        rcases hq' with ((hq' | rfl) | hq') | rfl
        · exact sym q (List.mem_of_mem_take hq')
        · exact hsy
        · exact sym q (List.mem_of_mem_drop hq')
        · exact hsy
      · simp only [List.mem_append, List.mem_singleton] at hq'
        rcases hq' with ((hq' | rfl) | hq') | rfl
        · exact big q (List.mem_of_mem_take hq')
        · show (z - v).natAbs ≤ _
          omega
        · exact big q (List.mem_of_mem_drop hq')
        · show v.natAbs ≤ _
          omega
      · rw [List.length_append, List.length_append, List.length_append, List.length_take, List.length_drop, ql]
        show _ + 1 + _ + 1 = _
        omega
      · have e1 : co (qs.take r ++ [(y, z - v)] ++ qs.drop r ++ [(y, v)]) s = co (qs.take r) s + (if s = y then z - v else 0) + co (qs.drop r) s + (if s = y then v else 0) := by rw [co_snoc, co_append, co_snoc]
        have e2 : co (ps.take (i + 1)) s = co (ps.take i) s + (if s = y then z else 0) := by rw [take_snoc hq, co_snoc]
        rw [e1, e2, ← hc s]
        have e := congrArg (fun x => co x s) (List.take_append_drop r qs)
        simp only [co_append] at e
        by_cases e3 : s = y
        · rw [if_pos e3, if_pos e3, if_pos e3]
          omega
        · rw [if_neg e3, if_neg e3, if_neg e3]
          omega
    · rintro σ H' ⟨o3, o4, o5, o6, g', qs, rfl, PQ, gb, hgn, sym, big, ql, hc, B2, S2⟩
      have xl := paired_len hp
      walk_at "rd"
      refine k g' qs H' hgn gb PQ sym big (by omega) (fun s => ?_) (B2.mono (by omega)) S2
      rw [hc s, xl, List.take_length]
abbrev s_law_same : Stmt := top 27
theorem sc_law_same : FnScope ["one", "other", "symbol"] ["one", "other"] (defScope s_law_same) := ⟨rfl, rfl, rfl, by decide +kernel, rfl, by decide +kernel, by decide +kernel⟩
theorem ok_same {f : Addr} {fd : FuncData} (F : Fun K "_law_same" "_law_same" s_law_same f fd) (T : Txt mg) : FnOk P w K mg base CX0 1 f fd ["one", "other"] spSame := by
  refine F.ok sc_law_same (fun vs H Q E h => ?_) (fun cdv A outer s H vs Q E hr h => ?_)
  · obtain ⟨d1, d2, m1, m2, rfl, _⟩ := h
    rfl
  · obtain ⟨d1, d2, m1, m2, rfl, h1, h2, hl1, hl2, k⟩ := h
    have hu := hu_of hr
    refine ⟨_, (pss_one (ps_ret (pe_callB (cr_all rfl) (by rfl) T.n_all (by decide +kernel) (pa_cons (pe_lc (own := [("symbol", 2)]) (g := gName 2) (by rfl) sc_law_same.nd (pi_list (pe_op op_cat (pe_callTy (call_list_dK rfl) (by rfl) T.n_list (by decide +kernel) (pa_cons (pv 0) pa_nil)) (pe_callTy (call_list_dK rfl) (by rfl) T.n_list (by decide +kernel) (pa_cons (pv 1) pa_nil)))) (blkOk_by (own := [("symbol", 2)]) (N := ["one", "other", "symbol"]) (sc := defScope s_law_same) (by decide +kernel)) (fun _ _ _ _ _ => (pg_name (i := 2) sc_law_same.nd rfl (Or.inl rfl))) (fun _ _ _ _ _ => pts_nil) (fun _ _ _ _ _ => (pe_cmpR op_eq (pe_dget2 hu (pv 0) (pv 2) pe_int ⟨rfl, rfl, rfl, rfl⟩) (pe_dget2 hu (pv 1) (pv 2) pe_int ⟨rfl, rfl, rfl, rfl⟩) (nomark _)))) pa_nil)))), ?_⟩
    walk_at "rd"
    refine ⟨d1, kvI m1, rfl, h1.at_, fun l1 hn1 => ?_⟩
    rw [keys_kvI]
    have s1 := same_new (o := .lst (m1.map fun q => V.str q.1)) (fun _ _ e => e) hn1
    have a1 : upd H l1 (.lst (m1.map fun q => V.str q.1)) l1 = some (.lst (m1.map fun q => V.str q.1)) := upd_same
    generalize upd H l1 (.lst (m1.map fun q => V.str q.1)) = A1 at s1 a1 ⊢
    walk_at "rd"
    refine ⟨d2, kvI m2, rfl, s1 _ _ h2.at_, fun l2 hn2 => ?_⟩
    rw [keys_kvI]
    have s2 := same_new (o := .lst (m2.map fun q => V.str q.1)) (fun _ _ e => e) hn2
    have a2 : upd A1 l2 (.lst (m2.map fun q => V.str q.1)) l2 = some (.lst (m2.map fun q => V.str q.1)) := upd_same
    generalize upd A1 l2 (.lst (m2.map fun q => V.str q.1)) = A2 at s2 a2 ⊢
    have big1 : sizeLine = 16777216 := by decide
    refine ⟨l1, l2, _, _, rfl, rfl, s2 _ _ a1, a2, by rw [List.length_map, List.length_map]; omega, fun l3 hn3 => ?_⟩
    rw [← List.map_append]
    have s3 := same_new (o := .lst ((m1 ++ m2).map fun q => V.str q.1)) (fun _ _ e => e) hn3
    have a3 : upd A2 l3 (.lst ((m1 ++ m2).map fun q => V.str q.1)) l3 = some (.lst ((m1 ++ m2).map fun q => V.str q.1)) := upd_same
    generalize upd A2 l3 (.lst ((m1 ++ m2).map fun q => V.str q.1)) = A3 at s3 a3 ⊢
    have t3 : Same H A3 := same_trans (same_trans s1 s2) s3
    walk_at "rd"
    refine ⟨⟨_, SqL.of a3⟩, fun D hD => lc_list (a := l3) (xs := (m1 ++ m2).map fun q => V.str q.1) (fun i H' => H' D = some (.lst ((((m1 ++ m2).take i).map fun q => decide (co m1 q.1 = co m2 q.1)).map V.bl)) ∧ Same A3 H') ⟨upd_same, same_new (fun _ _ e => e) hD⟩ (fun i H' _ ⟨_, s5⟩ => SqL.of (s5 _ _ a3)) ?_ ?_⟩
    · rintro i x H' hi ⟨hacc, S5⟩
      rw [List.getElem?_map] at hi
      obtain ⟨q, hq, rfl⟩ : ∃ q, (m1 ++ m2)[i]? = some q ∧ x = .str q.1 := by
        cases e : (m1 ++ m2)[i]? with
        | none => rw [e] at hi; cases hi
        | some q => rw [e] at hi; cases hi; exact ⟨q, rfl, rfl⟩
      have hD1 : H' d1 = some (.dK (kvI m1)) := S5 _ _ (t3 _ _ h1.at_)
      have hD2 : H' d2 = some (.dK (kvI m2)) := S5 _ _ (t3 _ _ h2.at_)
      refine ⟨rfl, ?_⟩
      walk_at "rd"
      refine ⟨.inl ⟨_, .inl hD1⟩, ?_⟩
      walk_at "rd"
      refine ⟨_, DGet.k (k := Sum.inr q.1) hD1, ?_⟩
      rw [kvI_val m1 q.1 h1.nd]
      walk_at "rd"
      refine ⟨.inl ⟨_, .inl hD2⟩, ?_⟩
      walk_at "rd"
      refine ⟨_, DGet.k (k := Sum.inr q.1) hD2, ?_⟩
      rw [kvI_val m2 q.1 h2.nd]
      have hil := (List.getElem?_eq_some_iff.mp hq).1
      rw [List.length_append] at hil
      have ed : decide (V.int (co m1 q.1) = V.int (co m2 q.1)) = decide (co m1 q.1 = co m2 q.1) := by
        by_cases e : co m1 q.1 = co m2 q.1
        · rw [e]
          simp
        · rw [decide_eq_false e, decide_eq_false fun z => e (by injection z)]
      refine ⟨rfl, _, hacc, ?_, ?_, same_over S5 hD⟩
      · rw [List.length_map, List.length_map, List.length_take, List.length_append]
        omega
      · rw [upd_same, List.take_succ, hq, List.map_append, List.map_append, ed]
        rfl
    · rintro H' ⟨hacc, S5⟩
      rw [List.length_map, List.take_length] at hacc
      refine ⟨D, _, rfl, SqL.of hacc, ?_⟩
      refine k _ H' ?_ (same_trans t3 S5)
      rw [List.all_eq_true]
      constructor
      · intro h s
        by_cases e : s ∈ (m1 ++ m2).map (·.1)
        · obtain ⟨q, hq, rfl⟩ := List.mem_map.mp e
          have := h _ (List.mem_map.mpr ⟨q, hq, rfl⟩)
          exact of_decide_eq_true this
        · rw [List.map_append, List.mem_append, not_or] at e
          rw [co_out e.1, co_out e.2]
      · intro h b hb
        obtain ⟨q, hq, rfl⟩ := List.mem_map.mp hb
        exact decide_eq_true (h q.1)
end
end Ow

set_option Elab.async false
set_option linter.all false
set_option maxRecDepth 100000
set_option maxHeartbeats 4000000
namespace Ow
open PySem PySem.Spec PyProof.Rows L2
local macro_rules | `(tactic| walk_at "rd") => `(tactic| repeat (first | (refine ⟨_, rfl, ?_⟩) | (refine ⟨_, _, rfl, rfl, ?_⟩) | (refine ⟨rfl, ?_⟩) | (refine ⟨_, _, rfl, ?_⟩) | (refine Or.inl ⟨_, rfl, ?_⟩) | (refine ⟨(by first | (show (0 : Int) < (_ : Int); decide) | exact Or.inl ⟨by decide, by decide⟩ | exact Or.inr ⟨by decide, by decide⟩ | exact ⟨by decide, by decide⟩ | exact ⟨by decide, by decide, by decide⟩), ?_⟩)))
section
variable {P : Program} {w : World} {K : PySem.W.Frag} {mg : Str → Option Value} {base : Heap}
abbrev s_is_list_name : Stmt := top 11
theorem sc_is_list_name : FnScope ["text", "letter"] ["text"] (defScope s_is_list_name) := ⟨rfl, rfl, rfl, by decide +kernel, rfl, by decide +kernel, by decide +kernel⟩
theorem ok_isl {f : Addr} {fd : FuncData} (F : Fun K "is_list_name" "is_list_name" s_is_list_name f fd) (T : Txt mg) : FnOk P w K mg base CX0 1 f fd ["text"] spIsL := by
  refine F.ok sc_is_list_name (fun vs H Q E h => ?_) (fun cdv A outer s H vs Q E hr h => ?_)
  · obtain ⟨x, rfl, _⟩ := h
    rfl
  · obtain ⟨x, rfl, hx, k⟩ := h
    have hu := hu_of hr
    refine ⟨_, (pss_one (ps_ret (pe_and (pe_chain op_le op_le pe_int (pe_callB call_len_str (by rfl) T.n_len (by decide +kernel) (pa_cons (pv 0) pa_nil)) (pe_globI rfl T.mg_MOST_LETTERS)) (pe_one (pe_callB (cr_all rfl) (by rfl) T.n_all (by decide +kernel) (pa_cons (pe_lc (own := [("letter", 1)]) (g := gName 1) (by rfl) sc_is_list_name.nd (pi_str (pv 0)) (blkOk_by (own := [("letter", 1)]) (N := ["text", "letter"]) (sc := defScope s_is_list_name) (by decide +kernel)) (fun _ _ _ _ _ => (pg_name (i := 1) sc_is_list_name.nd rfl (Or.inl rfl))) (fun _ _ _ _ _ => pts_nil) (fun _ _ _ _ _ => (pe_cmpR op_in_sign (pv 1) (pe_globS rfl T.mg_LETTERS) rfl))) pa_nil)))))), ?_⟩
    walk_at "rd"
    have hlen : x.length = x.cps.toList.length := (Array.length_toList).symm
    refine ⟨hx, ?_⟩
    walk_at "rd"
    refine ite2 (fun h1 => ?_) (fun h1 => ?_)
    · walk_at "rd"
      refine ite2 (fun h2 => ?_) (fun h2 => ?_)
      · walk_at "rd"
        have h3 : decide (1 ≤ x.cps.toList.length) = true := decide_eq_true (by have := of_decide_eq_true h1; omega)
        have h4 : decide (x.cps.toList.length ≤ 3) = true := decide_eq_true (by have := of_decide_eq_true h2; omega)
        refine fun D hD => lc_it walk_str (fun i H' => H' D = some (.lst (((x.cps.toList.take i).map fun c => decide (97 ≤ c) && decide (c ≤ 122)).map V.bl)) ∧ Same H H') ⟨upd_same, same_new (fun _ _ e => e) hD⟩ (fun _ _ _ _ => True.intro) ?_ ?_
        · rintro i v _ H' hi ⟨hl, S5⟩ ⟨rfl, c, hc, rfl⟩
          rw [← Array.getElem?_toList] at hc
          refine ⟨rfl, ?_⟩
          walk_at "rd"
          refine ⟨_, hl, ?_, ?_, same_over S5 hD⟩
          · rw [List.length_map, List.length_map, List.length_take]
            have h4' := of_decide_eq_true h4
            exact Nat.lt_of_lt_of_le (m := 4) (by omega) (by decide)
          · rw [upd_same, List.take_add_one, hc, List.map_append, List.map_append]
            have := abc_mem c
            unfold abcL at this
            rw [this]
            rfl
        · rintro H' ⟨hl, S5⟩
          refine ⟨D, _, rfl, SqL.of hl, ?_⟩
          have e : List.all ((x.cps.toList.take x.cps.size).map fun c => decide (97 ≤ c) && decide (c ≤ 122)) id = isLc x.cps.toList := by
            unfold isLc
            rw [h3, h4, ← Array.length_toList, List.take_length, List.all_map]
            rfl
          rw [e]
          exact k _ S5
      · have e : isLc x.cps.toList = false := by
          unfold isLc
          have : ¬ x.cps.toList.length ≤ 3 := fun z => h2 (decide_eq_true (by omega))
          rw [decide_eq_false this]
          simp
        have := k _ (fun _ _ e => e)
        rw [e] at this
        exact this
    · have e : isLc x.cps.toList = false := by
        unfold isLc
        have : ¬ 1 ≤ x.cps.toList.length := fun z => h1 (decide_eq_true (by omega))
        rw [decide_eq_false this]
        rfl
      have := k _ (fun _ _ e => e)
      rw [e] at this
      exact ⟨_, rfl, this⟩
abbrev s_is_round_symbol : Stmt := top 12
theorem sc_is_round_symbol : FnScope ["text", "number", "digit"] ["text"] (defScope s_is_round_symbol) := ⟨rfl, rfl, rfl, by decide +kernel, rfl, by decide +kernel, by decide +kernel⟩
theorem ok_isr {f : Addr} {fd : FuncData} (F : Fun K "is_round_symbol" "is_round_symbol" s_is_round_symbol f fd) (T : Txt mg) : FnOk P w K mg base CX0 1 f fd ["text"] spIsR := by
  refine F.ok sc_is_round_symbol (fun vs H Q E h => ?_) (fun cdv A outer s H vs Q E hr h => ?_)
  · obtain ⟨x, rfl, _⟩ := h
    rfl
  · obtain ⟨x, rfl, hx, k⟩ := h
    have hu := hu_of hr
    refine ⟨_, (pss_cons (ps_set (i := 1) sc_is_round_symbol.nd rfl (Or.inl rfl) (pe_slice sl_str (pv 0) (po_some pe_int) po_none))
      (pss_cons (ps_if (PW.pt (pw_or (pt_not (pt_val (pe_m1 PySem.F.slot_str_startswith PySem.F.type_str_startswith mt_startswith (pv 0) pe_str))) (pw_or1 (pt_not (pt_chain op_le op_le pe_int (pe_callB call_len_str (by rfl) T.n_len (by decide +kernel) (pa_cons (pv 1) pa_nil)) (pe_globI rfl T.mg_MOST_DIGITS)))))) (pss_one (ps_ret pe_bl)) pss_nil)
      (pss_cons (ps_if (PW.pt (pw_and (pt_val (pe_m1 PySem.F.slot_str_startswith PySem.F.type_str_startswith mt_startswith (pv 1) pe_str)) (pw_and1 (pt_cmpR op_ne (pv 1) pe_str (nomark _))))) (pss_one (ps_ret pe_bl)) pss_nil)
      (pss_one (ps_ret (pe_callB (cr_all rfl) (by rfl) T.n_all (by decide +kernel) (pa_cons (pe_lc (own := [("digit", 2)]) (g := gName 2) (by rfl) sc_is_round_symbol.nd (pi_str (pv 1)) (blkOk_by (own := [("digit", 2)]) (N := ["text", "number", "digit"]) (sc := defScope s_is_round_symbol) (by decide +kernel)) (fun _ _ _ _ _ => (pg_name (i := 2) sc_is_round_symbol.nd rfl (Or.inl rfl))) (fun _ _ _ _ _ => pts_nil) (fun _ _ _ _ _ => (pe_cmpR op_in_sign (pv 2) (pe_globS rfl T.mg_DIGITS) rfl))) pa_nil))))))), ?_⟩
    walk_at "rd"
    refine ⟨hx, ?_⟩
    rw [tail1]
    obtain ⟨z, hz, hzz⟩ : ∃ z : Str, (⟨(x.cps.toList.drop 1).toArray⟩ : Str) = z ∧ z.cps.toList = x.cps.toList.drop 1 := ⟨_, rfl, List.toList_toArray⟩
    rw [hz]
    have hlen : z.length = z.cps.toList.length := (Array.length_toList).symm
    have hlx : x.length = x.cps.toList.length := (Array.length_toList).symm
    have hzl : z.length ≤ sizeLine := by
      rw [hlen, hzz, List.length_drop]
      omega
    have er : Str.ofString "r" = ⟨#[114]⟩ := by decide +kernel
    have e0 : Str.ofString "0" = ⟨#[48]⟩ := by decide +kernel
    have no : isRc x.cps.toList = false → Q (.bl false) H := fun e => by
      have := k _ (fun _ _ e => e)
      rw [e] at this
      exact this
    have eq := isRc_eq x.cps.toList
    rw [← hzz] at eq
    walk_at "rd"
    refine ⟨⟨_, rfl⟩, ?_⟩
    walk_at "rd"
    rw [er, starts1]
    refine ite2 (fun h => ?_) (fun h => ?_)
    · have h1 : (x.cps.toList.head? == some 114) = false := by simpa using h
      walk_at "rd"
      exact no (by rw [eq, h1]; rfl)
    · have h1 : (x.cps.toList.head? == some 114) = true := by simpa using h
      walk_at "rd"
      refine ⟨hzl, ?_⟩
      walk_at "rd"
      refine ite2 (fun h => ?_) (fun h => ?_)
      · have h2 : decide (1 ≤ z.cps.toList.length) = true := decide_eq_true (by have := of_decide_eq_true h; omega)
        walk_at "rd"
        refine ite2 (fun h => ?_) (fun h => ?_)
        · have h3 : decide (z.cps.toList.length ≤ 60) = false := by
            have : ¬ ((z.length : Nat) : Int) ≤ 60 := by simpa using h
            exact decide_eq_false (by omega)
          walk_at "rd"
          exact no (by rw [eq, h1, h2, h3]; rfl)
        · have h3 : decide (z.cps.toList.length ≤ 60) = true := by
            have : ((z.length : Nat) : Int) ≤ 60 := by simpa using h
            exact decide_eq_true (by omega)
          rw [h1, h2, h3] at eq
          have fin : (z.cps.toList == [48] || z.cps.toList.head? != some 48) = true → isRc x.cps.toList = (z.cps.toList.all fun c => decide (48 ≤ c) && decide (c ≤ 57)) := fun e => by
            rw [eq, e]
            simp
          walk_at "rd"
          refine ⟨⟨_, rfl⟩, ?_⟩
          walk_at "rd"
          rw [e0, starts1]
          refine ite2 (fun h => ?_) (fun h => ?_)
          · walk_at "rd"
            refine ite2 (fun h' => ?_) (fun h' => ?_)
            · have hne : (z.cps.toList == [48]) = false := by
                refine beq_eq_false_iff_ne.mpr fun y => ?_
                have : z = ⟨#[48]⟩ := str_eq_of y
                rw [this] at h'
                revert h'
                decide
              walk_at "rd"
              refine no ?_
              rw [eq, hne]
              have : (z.cps.toList.head? != some 48) = false := by
                rw [bne, h]
                rfl
              rw [this]
              simp
            · have hy : z = ⟨#[48]⟩ := by simpa using h'
              have eqq := fin (by rw [hy]; rfl)
              walk_at "rd"
              refine fun D hD => lc_it walk_str (fun i H' => H' D = some (.lst (((z.cps.toList.take i).map fun c => decide (48 ≤ c) && decide (c ≤ 57)).map V.bl)) ∧ Same H H') ⟨upd_same, same_new (fun _ _ e => e) hD⟩ (fun _ _ _ _ => True.intro) ?_ ?_
              · rintro i v _ H' hi ⟨hl, S5⟩ ⟨rfl, c, hc, rfl⟩
                rw [← Array.getElem?_toList] at hc
                refine ⟨rfl, ?_⟩
                walk_at "rd"
                refine ⟨_, hl, ?_, ?_, same_over S5 hD⟩
                · rw [List.length_map, List.length_map, List.length_take]
                  have h3' := of_decide_eq_true h3
                  exact Nat.lt_of_lt_of_le (m := 61) (by omega) (by decide)
                · rw [upd_same, List.take_add_one, hc, List.map_append, List.map_append]
                  have := dig_mem c
                  unfold digL at this
                  rw [this]
                  rfl
              · rintro H' ⟨hl, S5⟩
                refine ⟨D, _, rfl, SqL.of hl, ?_⟩
                have e : List.all ((z.cps.toList.take z.cps.size).map fun c => decide (48 ≤ c) && decide (c ≤ 57)) id = isRc x.cps.toList := by
                  rw [eqq, ← Array.length_toList, List.take_length, List.all_map]
                  rfl
                rw [e]
                exact k _ S5
          · have eqq := fin (by rw [bne, Bool.eq_false_iff.mpr h]; simp)
            walk_at "rd"
            refine fun D hD => lc_it walk_str (fun i H' => H' D = some (.lst (((z.cps.toList.take i).map fun c => decide (48 ≤ c) && decide (c ≤ 57)).map V.bl)) ∧ Same H H') ⟨upd_same, same_new (fun _ _ e => e) hD⟩ (fun _ _ _ _ => True.intro) ?_ ?_
            · rintro i v _ H' hi ⟨hl, S5⟩ ⟨rfl, c, hc, rfl⟩
              rw [← Array.getElem?_toList] at hc
              refine ⟨rfl, ?_⟩
              walk_at "rd"
              refine ⟨_, hl, ?_, ?_, same_over S5 hD⟩
              · rw [List.length_map, List.length_map, List.length_take]
                have h3' := of_decide_eq_true h3
                exact Nat.lt_of_lt_of_le (m := 61) (by omega) (by decide)
              · rw [upd_same, List.take_add_one, hc, List.map_append, List.map_append]
                have := dig_mem c
                unfold digL at this
                rw [this]
                rfl
            · rintro H' ⟨hl, S5⟩
              refine ⟨D, _, rfl, SqL.of hl, ?_⟩
              have e : List.all ((z.cps.toList.take z.cps.size).map fun c => decide (48 ≤ c) && decide (c ≤ 57)) id = isRc x.cps.toList := by
                rw [eqq, ← Array.length_toList, List.take_length, List.all_map]
                rfl
              rw [e]
              exact k _ S5
      · have h2 : decide (1 ≤ z.cps.toList.length) = false := decide_eq_false fun y => h (decide_eq_true (by omega))
        walk_at "rd"
        exact no (by rw [eq, h1, h2]; rfl)
abbrev s_is_symbol : Stmt := top 13
theorem sc_is_symbol : FnScope ["text"] ["text"] (defScope s_is_symbol) := ⟨rfl, rfl, rfl, by decide +kernel, rfl, by decide +kernel, by decide +kernel⟩
theorem ok_iss {f : Addr} {fd : FuncData} (F : Fun K "is_symbol" "is_symbol" s_is_symbol f fd) (T : Txt mg) (c_isl : Cal P w K mg base "is_list_name" 1 spIsL) (c_isr : Cal P w K mg base "is_round_symbol" 1 spIsR) : FnOk P w K mg base CX0 2 f fd ["text"] spIsS := by
  refine F.ok sc_is_symbol (fun vs H Q E h => ?_) (fun cdv A outer s H vs Q E hr h => ?_)
  · obtain ⟨x, rfl, _⟩ := h
    rfl
  · obtain ⟨x, rfl, hx, k⟩ := h
    have hu := hu_of hr
    refine ⟨_, (pss_one (ps_ret (pe_or (pe_cal c_isl (hr.mono (by decide)) (pa_cons (pv 0) pa_nil)) (pe_one (pe_cal c_isr (hr.mono (by decide)) (pa_cons (pv 0) pa_nil)))))), ?_⟩
    walk_at "rd"
    refine ⟨hx, fun H1 S1 => ?_⟩
    walk_at "rd"
    refine ite2 (fun h => ?_) (fun h => ?_)
    · have := k H1 S1
      unfold isSym at this
      rw [h, Bool.true_or] at this
      exact this
    · walk_at "rd"
      refine ⟨hx, fun H2 S2 => ?_⟩
      have := k H2 (same_trans S1 S2)
      unfold isSym at this
      rw [Bool.eq_false_iff.mpr h, Bool.false_or] at this
      exact this
end
end Ow

set_option Elab.async false
set_option linter.all false
set_option maxRecDepth 100000
set_option maxHeartbeats 4000000
namespace Ow
open PySem PySem.Spec PyProof.Rows L2
local macro_rules | `(tactic| walk_at "rd") => `(tactic| repeat (first | (refine ⟨_, rfl, ?_⟩) | (refine ⟨_, _, rfl, rfl, ?_⟩) | (refine ⟨rfl, ?_⟩) | (refine ⟨_, _, rfl, ?_⟩) | (refine Or.inl ⟨_, rfl, ?_⟩) | (refine ⟨(by first | (show (0 : Int) < (_ : Int); decide) | exact Or.inl ⟨by decide, by decide⟩ | exact Or.inr ⟨by decide, by decide⟩ | exact ⟨by decide, by decide⟩ | exact ⟨by decide, by decide, by decide⟩), ?_⟩)))
section
variable {P : Program} {w : World} {K : PySem.W.Frag} {mg : Str → Option Value} {base : Heap} {C : Addr}
abbrev s_FormD_initD : Stmt := inClass (top 17) 0
theorem sc_FormD_initD : FnScope ["self", "constant", "coefficients", "symbol", "many"] ["self", "constant", "coefficients"] (defScope s_FormD_initD) := ⟨rfl, rfl, rfl, by decide +kernel, rfl, by decide +kernel, by decide +kernel⟩
theorem ok_init {f : Addr} {fd : FuncData} (F : FunD K "__init__" "Form.__init__" (defArgs s_FormD_initD) (defBody s_FormD_initD) (defScope s_FormD_initD) [.int 0] [] f fd) (T : Txt mg) (R : FormK K C) (c_iss : Cal P w K mg base "is_symbol" 2 spIsS) : KwX.KwOk P w K mg base 3 f (.int 0) (spInit C) := by
  refine KwX.run_kwdef F ⟨rfl, ⟨_, _, rfl, rfl, rfl⟩, rfl, rfl, ⟨_, rfl, rfl⟩⟩ sc_FormD_initD (fun cdv A outer s H vs Q E hr h => ?_)
  obtain ⟨x, d, dx, c, m, rfl, hx, hD, hL, k⟩ := h
  have hu := hu_of hr
  refine ⟨_, (pss_cons (ps_for PassesOwn.never rfl (pi_list (pe_callB (call_sortedD rfl) (by rfl) T.n_sorted (by decide +kernel) (pa_cons (pv 2) pa_nil))) (pg_name (i := 3) sc_FormD_initD.nd rfl (Or.inl rfl))
      (pss_one (ps_if (pt_not (pt_val (pe_cal c_iss (hr.mono (by decide)) (pa_cons (pv 3) pa_nil)))) (pss_one ps_never) pss_nil)))
      (pss_cons (ps_fld (pv 0) (pv 1) rfl)
      (pss_one (ps_fld (pv 0) (pe_lock (pe_dc (own := [("symbol", 3), ("many", 4)]) (g := gTup _ 2 (gCons (gName 3) (gCons (gName 4) (gNil)))) (by rfl) sc_FormD_initD.nd (pi_items (pv 2)) (blkOk_by (own := [("symbol", 3), ("many", 4)]) (N := ["self", "constant", "coefficients", "symbol", "many"]) (sc := defScope s_FormD_initD) (by decide +kernel)) (fun _ _ _ _ _ => (pg_tup rfl (pgs_cons (pg_name (i := 3) sc_FormD_initD.nd rfl (Or.inl rfl)) (pgs_cons (pg_name (i := 4) sc_FormD_initD.nd rfl (Or.inl rfl)) pgs_nil)))) (fun _ _ _ _ _ => (pts_one (pt_cmpR op_ne (pv 4) pe_int (nomark _)))) (fun _ _ _ _ _ => (pv 3)) (fun _ _ _ _ _ => (pv 4)))) rfl)))), ?_⟩
  walk_at "rd"
  refine ⟨d, kvI m, m.map (·.1), rfl, .inl hD.at_, kvI_keys m, by rw [List.length_map]; exact hL, fun ys p hperm hsort hp => ?_⟩
  have Sp : Same H (upd H p (.lst (ys.map V.str))) := same_new (fun _ _ e => e) hp
  refine ⟨p, rfl, ⟨_, SqL.of upd_same⟩, for_list (a := p) (xs := ys.map V.str) (fun i σ H' => ∃ o : Option V, σ = [some (.ref x), some (.int c), some (.ref d), o, none] ∧ Same (upd H p (.lst (ys.map V.str))) H') ⟨none, rfl, fun _ _ e => e⟩ (fun i σ H' _ ⟨_, _, s5⟩ => SqL.of (s5 _ _ upd_same)) ?_ ?_⟩
  · rintro i v σ H' hi ⟨o, rfl, S5⟩
    obtain ⟨y, hy, rfl⟩ := str_at hi
    have hym : isSym y = true := by
      obtain ⟨q, hq, rfl⟩ := List.mem_map.mp (hperm.mem_iff.mp (List.mem_of_getElem? hy))
      exact hD.sym q hq
    walk_at "rd"
    refine ⟨sym_len hym, fun H1 S1 => ?_⟩
    walk_at "rd"
    rw [hym]
    refine ite2 (fun h => Bool.noConfusion h) (fun _ => ?_)
    exact ⟨_, rfl, same_trans S5 S1⟩
  · rintro σ H' ⟨o, rfl, S5⟩
    have S1 := same_trans Sp S5
    have hx1 := S1 _ _ hx
    have hd1 := S1 _ _ hD.at_
    have xd : x ≠ d := fun z => by rw [z, hD.at_] at hx; cases hx
    walk_at "rd"
    refine ⟨x, C, dx, [], rfl, hx1, R.cl, R.n1, by decide, ?_⟩
    refine ⟨d, .dK (kvI m), (upd_ne xd.symm).trans hd1, True.intro, fun od => ?_⟩
    walk_at "rd"
    refine ⟨d, od, kvI m, rfl, upd_same, fun D hDn => dc_it walk_items (fun i H2 => H2 D = some (.dK (kvI (nzs (m.take i)))) ∧ Same (upd (upd H' x (.ins C dx (putF "constant" (.int c) []))) d (.frz od (.dK (kvI m)))) H2) ⟨upd_same, same_new (fun _ _ e => e) hDn⟩ (fun i H2 _ h => h.2 _ _ upd_same) ?_ ?_⟩
    · rintro i v H1 _ hi ⟨hDk, S6⟩ ⟨t, kx, vx, rfl, ht, rfl, h1, h2⟩
      obtain ⟨⟨y, z⟩, hq, rfl, rfl⟩ : ∃ q, m[i]? = some q ∧ kx = V.str q.1 ∧ vx = V.int q.2 := by
        have h1 : (kvI m)[i]?.map (fun kv => kV kv.1) = some kx := h1
        have h2 : (kvI m)[i]?.map Prod.snd = some vx := h2
        cases e : (kvI m)[i]? with
        | none => rw [e] at h1; cases h1
        | some kv =>
          obtain ⟨k0, v0⟩ := kv
          obtain ⟨q, hq, rfl, rfl⟩ := kvI_at e
          rw [e] at h1 h2
          exact ⟨q, hq, (Option.some.inj h1).symm, (Option.some.inj h2).symm⟩
      have Dt : D ≠ t := fun z => by rw [z, ht] at hDk; cases hDk
      refine ⟨t, _, rfl, SqT.of upd_same, rfl, ?_⟩
      walk_at "rd"
      refine ite2 (fun h => ?_) (fun h => ?_)
      · walk_at "rd"
        have hz : z ≠ 0 := by simpa using h
        have hn : y ∉ (nzs (m.take i)).map (·.1) := take_new (q := (y, z)) hD.nd hq
        have hnd : ((nzs (m.take i)).map (·.1)).Nodup := hD.nd.sublist (((nzs_sub _).trans (List.take_sublist _ _)).map _)
        have hlen : (kvI (nzs (m.take i))).length < sizeLine := by
          rw [kvI_len]
          refine Nat.lt_of_le_of_lt (nzs_sub _).length_le (Nat.lt_of_lt_of_le (m := 64) ?_ (by decide))
          rw [List.length_take]
          omega
        refine ⟨_, Sum.inr y, rfl, (upd_ne Dt).trans hDk, hlen, ?_, same_over (same_new S6 ht) hDn⟩
        rw [upd_same]
        show some (HO.dK (putK (kvI (nzs (m.take i))) (Sum.inr y) (V.int z))) = _
        rw [kvI_put y z hnd, putS_new _ _ _ hn, nzs_take hq, if_neg hz]
      · have hz : z = 0 := by simpa using h
        refine ⟨?_, same_new S6 ht⟩
        rw [upd_ne Dt, hDk, nzs_take hq, if_pos hz, List.append_nil]
    · rintro H2 ⟨hDk, S6⟩
      rw [kvI_len, List.take_length] at hDk
      refine ⟨S6 _ _ upd_same, ?_⟩
      walk_at "rd"
      have hx2 : upd H2 d (.dK (kvI m)) x = some (.ins C dx (putF "constant" (.int c) [])) := (upd_ne xd).trans (S6 _ _ ((upd_ne xd).trans upd_same))
      refine ⟨x, C, dx, _, rfl, hx2, R.cl, R.n2, by show 1 < 1000; decide, ?_⟩
      have Dd : D ≠ d := fun z => by rw [z, upd_same] at hDn; cases hDn
      rw [upd_ne Dd] at hDn
      have Dx : D ≠ x := fun z => by rw [z, upd_same] at hDn; cases hDn
      rw [upd_ne Dx] at hDn
      have hDn0 : H D = none := by
        cases e : H D with
        | none => rfl
        | some o => rw [S1 _ _ e] at hDn; cases hDn
      refine k D _ hDn0 ?_ ⟨(upd_ne Dx).trans ((upd_ne Dd).trans hDk), hD.nd.sublist ((nzs_sub _).map _), fun q hq => hD.sym q ((nzs_sub _).subset hq)⟩ fun a o na e => ?_
      · rw [upd_same]
        rfl
      · rw [upd_ne na]
        by_cases z : a = d
        · subst z
          rw [upd_same, ← hD.at_, e]
        · rw [upd_ne z]
          exact S6 _ _ ((upd_ne z).trans ((upd_ne na).trans (S1 _ _ e)))
abbrev s_Form_of : Stmt := inClass (top 17) 1
theorem sc_Form_of : FnScope ["cls", "constant", "pairs", "table", "symbol", "many"] ["cls", "constant", "pairs"] (defScope s_Form_of) := ⟨rfl, rfl, rfl, by decide +kernel, rfl, by decide +kernel, by decide +kernel⟩
theorem ok_of {f fi : Addr} {fd : FuncData} (F : Fun K "of" "Form.of" s_Form_of f fd) (T : Txt mg) (R : FormK K C) (M : Mk K C fi) (hForm : mg "Form" = some (.ref C)) (c_init : KwX.KwOk P w K mg base 3 fi (.int 0) (spInit C)) (c_iss : Cal P w K mg base "is_symbol" 2 spIsS) : FnOk P w K mg base CX0 5 f fd ["cls", "constant", "pairs"] (spOf C) := by
  refine F.ok sc_Form_of (fun vs H Q E h => ?_) (fun cdv A outer s H vs Q E hr h => ?_)
  · obtain ⟨c, l, ps, rfl, _⟩ := h
    rfl
  · obtain ⟨c, l, ps, rfl, ⟨xs, hl, hp⟩, hO, hL, k⟩ := h
    have hu := hu_of hr
    refine ⟨_, (pss_cons (ps_set (i := 3) sc_Form_of.nd rfl (Or.inl rfl) pe_dnewK)
      (pss_cons (ps_for PassesOwn.never rfl (pi_list (pv 2)) (pg_tup rfl (pgs_cons (pg_name (i := 4) sc_Form_of.nd rfl (Or.inl rfl)) (pgs_cons (pg_name (i := 5) sc_Form_of.nd rfl (Or.inl rfl)) pgs_nil)))
      (pss_cons (ps_if (pt_not (pt_val (pe_cal c_iss (hr.mono (by decide)) (pa_cons (pv 4) pa_nil)))) (pss_one ps_never) pss_nil)
      (pss_one (ps_dput hu (pv 3) (pv 4) (pe_op op_add (pe_dget2 hu (pv 3) (pv 4) pe_int ⟨rfl, rfl, rfl, rfl⟩) (pv 5)) rfl))))
      (pss_one (ps_ret (KwX.pe_mkT (E := E0) M c_init (hr.mono (by decide)) rfl hForm (pv 1) (pv 3)))))), ?_⟩
    refine fun d hd => ?_
    have S0 : Same H (upd H d (.dK [])) := same_new (fun _ _ e => e) hd
    walk_at "rd"
    refine ⟨⟨_, SqL.of (S0 _ _ hl)⟩, for_list (a := l) (xs := xs) (fun i σ H' => ∃ (o o' : Option V) (m : Ps), σ = [some (.ref C), some (.int c), some (.ref l), some (.ref d), o, o'] ∧ DictAt H' d m ∧ m.length ≤ i ∧ (∀ s, co m s = co (ps.take i) s) ∧ Same H H') ⟨none, none, [], rfl, DictAt.new, Nat.le_refl _, fun _ => rfl, S0⟩ (fun i σ H' _ ⟨_, _, _, _, _, _, _, s5⟩ => SqL.of (s5 _ _ hl)) ?_ ?_⟩
    · rintro i x σ H' hi ⟨o, o', m, rfl, hD, hm, hc, S5⟩
      obtain ⟨⟨x, v⟩, hq, t, rfl, ht⟩ := paired_at hp hi
      have hx : isSym x = true := hO _ (List.mem_of_getElem? hq)
      have hz : (kvI m).length < sizeLine := by
        rw [kvI_len]
        have : i < ps.length := (List.getElem?_eq_some_iff.mp hq).1
        exact Nat.lt_of_lt_of_le (m := 64) (by omega) (by decide)
      refine ⟨t, _, rfl, SqT.of (S5 _ _ ht), rfl, ?_⟩
      walk_at "rd"
      refine ⟨sym_len hx, fun H1 S1 => ?_⟩
      walk_at "rd"
      rw [hx]
      refine ite2 (fun h => Bool.noConfusion h) (fun _ => ?_)
      have hD := hD.same S1
      have S5 := same_trans S5 S1
      walk_at "rd"
      refine ⟨.inl ⟨_, .inl hD.at_⟩, ?_⟩
      walk_at "rd"
      refine ⟨_, DGet.k (k := Sum.inr x) hD.at_, ?_⟩
      rw [kvI_val m x hD.nd]
      walk_at "rd"
      refine ⟨d, _, rfl, DPut.k (k := Sum.inr x) hD.at_ hz, ?_⟩
      refine ⟨_, _, _, rfl, hD.put x _ hx, ?_, fun s => ?_, same_over S5 hd⟩
      · exact Nat.le_trans (putS_len _ _ _) (by omega)
      · rw [co_putS m x _ s hD.nd, take_snoc hq, co_snoc]
        by_cases e : s = x
        · rw [if_pos e, if_pos e, ← hc s, e]
        · rw [if_neg e, if_neg e, hc s, Int.add_zero]
    · rintro σ H' ⟨o, o', m, rfl, hD, hm, hc, S5⟩
      rw [paired_len hp] at hm hc
      walk_at "rd"
      refine fun d0 hd0 => ?_
      walk_at "rd"
      have dd0 : d ≠ d0 := fun z => by rw [← z, hD.at_] at hd0; cases hd0
      refine ⟨d, m.map fun p => (p.1, V.int p.2), rfl, dd0, ?_, upd_same, ?_, ?_, ?_⟩
      · rw [keyed_kvI, upd_ne dd0]
        exact hD.at_
      · rintro p hp
        obtain ⟨q, hq, rfl⟩ := List.mem_map.mp hp
        exact sym_ne (hD.sym q hq)
      · rw [List.map_map]
        exact hD.nd
      · rw [keyed_kvI]
        intro x dx e hx hdx he n1 n2 n3
        rw [keyed_kvI]
        have S6 : Same H' (upd (upd H' d0 (.dK [])) d0 (.dK (kvI m))) := same_over (same_new (fun _ _ e => e) hd0) hd0
        have S7 := same_new (o := .own x) S6 hdx
        have x1 : upd (upd (upd H' d0 (.dK [])) d0 (.dK (kvI m))) dx (.own x) x = none := (upd_ne n1.symm).trans hx
        have S8 := same_new (o := .ins C dx []) S7 x1
        have e1 : upd (upd (upd (upd H' d0 (.dK [])) d0 (.dK (kvI m))) dx (.own x)) x (.ins C dx []) e = none := (upd_ne n2).trans ((upd_ne n3).trans he)
        have S9 := same_new (o := .dK (kvI m)) S8 e1
        refine ⟨x, e, dx, c, m, rfl, (upd_ne n2.symm).trans upd_same, ⟨upd_same, hD.nd, hD.sym⟩, by omega, fun d' H2 hd' hx2 hD2 St => ⟨rfl, ?_⟩⟩
        have xn : H' x = none := by
          cases q : H' x with
          | none => rfl
          | some o => rw [S6 _ _ q] at hx; cases hx
        have xn0 : H x = none := by
          cases q : H x with
          | none => rfl
          | some o => rw [S5 _ _ q] at xn; cases xn
        refine k x (nzs m) H2 xn0 ⟨⟨dx, d', hx2, hD2⟩, nzs_nz⟩ (Nat.le_trans (nzs_sub _).length_le hm) (fun s => ?_) fun a o q => St a o (ne_of_none q xn0) (S9 _ _ (S5 _ _ q))
        rw [nzs_co, hc s, List.take_length]
abbrev s_Form_symbols : Stmt := inClass (top 17) 2
theorem sc_Form_symbols : FnScope ["self"] ["self"] (defScope s_Form_symbols) := ⟨rfl, rfl, rfl, by decide +kernel, rfl, by decide +kernel, by decide +kernel⟩
theorem ok_symbols {f : Addr} {fd : FuncData} (F : Fun K "symbols" "Form.symbols" s_Form_symbols f fd) (T : Txt mg) (R : FormK K C) : FnOk P w K mg base CX0 1 f fd ["self"] (spSymbols C) := by
  refine F.ok sc_Form_symbols (fun vs H Q E h => ?_) (fun cdv A outer s H vs Q E hr h => ?_)
  · obtain ⟨p, c, m, rfl, _⟩ := h
    rfl
  · obtain ⟨p, c, m, rfl, ⟨⟨dx, d, h1, h2⟩, hn⟩, hL, k⟩ := h
    have hu := hu_of hr
    refine ⟨_, (pss_one (ps_ret (pe_callB (call_sortedD rfl) (by rfl) T.n_sorted (by decide +kernel) (pa_cons (pe_fld (pv 0) rfl) pa_nil)))), ?_⟩
    walk_at "rd"
    refine ⟨p, C, dx, _, .ref d, rfl, h1, R.cl, R.n2, rfl, ?_⟩
    refine ⟨d, kvI m, m.map (·.1), rfl, .inl h2.at_, kvI_keys m, by rw [List.length_map]; exact hL, fun ys l hperm hsort hl => ?_⟩
    exact k l ys _ hperm hsort hl upd_same (same_new (fun _ _ e => e) hl)
abbrev s_FormDpairs : Stmt := inClass (top 17) 3
theorem sc_FormDpairs : FnScope ["self", "symbol"] ["self"] (defScope s_FormDpairs) := ⟨rfl, rfl, rfl, by decide +kernel, rfl, by decide +kernel, by decide +kernel⟩
theorem ok_fpairs {f : Addr} {fd : FuncData} (F : Fun K "_pairs" "Form._pairs" s_FormDpairs f fd) (T : Txt mg) (R : FormK K C) (c_symbols : CalM P w K mg base C "symbols" 1 (spSymbols C)) : FnOk P w K mg base CX0 2 f fd ["self"] (spFPairs C) := by
  refine F.ok sc_FormDpairs (fun vs H Q E h => ?_) (fun cdv A outer s H vs Q E hr h => ?_)
  · obtain ⟨p, c, m, rfl, _⟩ := h
    rfl
  · obtain ⟨p, c, m, rfl, hF, hL, k⟩ := h
    have hu := hu_of hr
    refine ⟨_, (pss_one (ps_ret (pe_lc (own := [("symbol", 1)]) (g := gName 1) (by rfl) sc_FormDpairs.nd (pi_list (pe_calM0 c_symbols (hr.mono (by decide)) (pv 0))) (blkOk_by (own := [("symbol", 1)]) (N := ["self", "symbol"]) (sc := defScope s_FormDpairs) (by decide +kernel)) (fun _ _ _ _ _ => (pg_name (i := 1) sc_FormDpairs.nd rfl (Or.inl rfl))) (fun _ _ _ _ _ => pts_nil) (fun _ _ _ _ _ => (pe_tup (pa_cons (pv 1) (pa_cons (pe_dget hu (pe_fldK (K := K) rfl (pv 0) rfl) (pv 1) (fun _ _ => rfl)) pa_nil))))))), ?_⟩
    obtain ⟨⟨dx, d, h1, h2⟩, hn⟩ := id hF
    walk_at "rd"
    refine ⟨p, dx, _, rfl, h1, rfl, ?_⟩
    refine ⟨p, c, m, rfl, hF, hL, fun l ys H1 hperm hsort hl hl1 S1 => ?_⟩
    have hys : ys.length < 64 := by rw [hperm.length_eq, List.length_map]; exact hL
    have hys2 : ys.length = m.length := by rw [hperm.length_eq, List.length_map]
    have hin : ∀ y ∈ ys, y ∈ m.map (·.1) := fun y hy => hperm.mem_iff.mp hy
    refine ⟨l, rfl, ⟨_, SqL.of hl1⟩, fun D hDn => lc_list (a := l) (xs := ys.map V.str) (fun i H' => ∃ acc, H' D = some (.lst acc) ∧ Paired (PairAt H') acc (canL (ys.take i) (co m)) ∧ acc.length ≤ i ∧ Same H1 H') ⟨[], upd_same, .nil, Nat.le_refl _, same_new (fun _ _ e => e) hDn⟩ (fun i H' _ ⟨_, _, _, _, s5⟩ => SqL.of (s5 _ _ hl1)) ?_ ?_⟩
    · rintro i x H' hi ⟨acc, hacc, hpa, hal, S5⟩
      obtain ⟨y, hy, rfl⟩ := str_at hi
      refine ⟨rfl, ?_⟩
      walk_at "rd"
      have hym := hin y (List.mem_of_getElem? hy)
      have S6 := same_trans S1 S5
      refine ⟨p, C, dx, _, .ref d, rfl, S6 _ _ h1, R.cl, R.n2, rfl, ?_⟩
      walk_at "rd"
      have hg : DGet H' d (.str y) (some (.int (co m y))) := dget_r (.inl (S6 _ _ h2.at_)) h2.nd hym
      refine ⟨d, _, rfl, hg, ?_⟩
      walk_at "rd"
      have h0 : co m y ≠ 0 := by
        obtain ⟨q, hq, rfl⟩ := List.mem_map.mp hym
        rw [co_in h2.nd hq]
        exact hn q hq
      refine ⟨by show 2 ≤ sizeLine; decide, fun t ht => ?_⟩
      obtain ⟨q1, q2⟩ := push_lc (x := y) (v := co m y) hacc hpa ht
      have hz : acc.length < sizeLine := Nat.lt_of_lt_of_le (m := 64) (by have := (List.getElem?_eq_some_iff.mp hy).1; omega) (by decide)
      refine ⟨acc, q1, hz, _, upd_same, ?_, ?_, same_over (same_new S5 ht) hDn⟩
      · rw [canL_take hy, if_neg h0]
        exact q2
      · rw [List.length_append]
        exact Nat.succ_le_succ hal
    · rintro H' ⟨acc, hacc, hpa, hal, S5⟩
      rw [List.length_map, List.take_length] at hpa
      have hD0 : H D = none := by
        cases q : H D with
        | none => rfl
        | some o => rw [S1 _ _ q] at hDn; cases hDn
      refine k D _ H' ⟨acc, hacc, hpa⟩ (canL_can (sorted_pw hsort) (hperm.nodup_iff.mpr h2.nd) fun s hs => ?_) (fun q hq => ?_) (Nat.le_trans (canL_len _ _) (by omega)) hD0 (same_trans S1 S5)
      · refine hperm.mem_iff.mpr (Classical.byContradiction fun n => hs (co_out n))
      · obtain ⟨q', hq', e⟩ := List.mem_map.mp (hin _ (canL_mem hq).1)
        rw [← e]
        exact h2.sym q' hq'
abbrev s_Form_written : Stmt := inClass (top 17) 4
theorem sc_Form_written : FnScope ["self"] ["self"] (defScope s_Form_written) := ⟨rfl, rfl, rfl, by decide +kernel, rfl, by decide +kernel, by decide +kernel⟩
theorem ok_fwritten {f : Addr} {fd : FuncData} (F : Fun K "written" "Form.written" s_Form_written f fd) (T : Txt mg) (R : FormK K C) (c_fpairs : CalM P w K mg base C "_pairs" 2 (spFPairs C)) : FnOk P w K mg base CX0 3 f fd ["self"] (spFWritten C) := by
  refine F.ok sc_Form_written (fun vs H Q E h => ?_) (fun cdv A outer s H vs Q E hr h => ?_)
  · obtain ⟨p, c, m, rfl, _⟩ := h
    rfl
  · obtain ⟨p, c, m, rfl, hF, hL, k⟩ := h
    have hu := hu_of hr
    refine ⟨_, (pss_one (ps_ret (pe_tup (pa_cons (pe_fld (pv 0) rfl) (pa_cons (pe_callTy call_tuple_of (by rfl) T.n_tuple (by decide +kernel) (pa_cons (pe_calM0 c_fpairs (hr.mono (by decide)) (pv 0)) pa_nil)) pa_nil))))), ?_⟩
    obtain ⟨⟨dx, d, h1, h2⟩, hn⟩ := id hF
    walk_at "rd"
    refine ⟨p, C, dx, _, .int c, rfl, h1, R.cl, R.n1, rfl, ?_⟩
    walk_at "rd"
    refine ⟨p, dx, _, rfl, h1, rfl, ?_⟩
    refine ⟨p, c, m, rfl, hF, hL, fun l L H1 hP hC hS hLl hl S1 => ?_⟩
    obtain ⟨xs, hx, hp⟩ := hP
    refine ⟨l, xs, rfl, .inl ⟨SqL.of hx, fun t ht => ?_⟩⟩
    walk_at "rd"
    refine ⟨by show 2 ≤ sizeLine; decide, fun t2 ht2 => ?_⟩
    exact k _ L _ (wr_new hp ht ht2) hC hS (same_new (same_new S1 ht) ht2)
end
end Ow

set_option Elab.async false
set_option linter.all false
set_option maxRecDepth 100000
set_option maxHeartbeats 4000000
namespace Ow
open PySem PySem.Spec PyProof.Rows L2
local macro_rules | `(tactic| walk_at "rd") => `(tactic| repeat (first | (refine ⟨_, rfl, ?_⟩) | (refine ⟨_, _, rfl, rfl, ?_⟩) | (refine ⟨rfl, ?_⟩) | (refine ⟨_, _, rfl, ?_⟩) | (refine Or.inl ⟨_, rfl, ?_⟩) | (refine ⟨(by first | (show (0 : Int) < (_ : Int); decide) | exact Or.inl ⟨by decide, by decide⟩ | exact Or.inr ⟨by decide, by decide⟩ | exact ⟨by decide, by decide⟩ | exact ⟨by decide, by decide, by decide⟩), ?_⟩)))
section
variable {P : Program} {w : World} {K : PySem.W.Frag} {mg : Str → Option Value} {base : Heap} {C : Addr}
abbrev s_FormD_addD : Stmt := inClass (top 17) 11
theorem sc_FormD_addD : FnScope ["self", "other"] ["self", "other"] (defScope s_FormD_addD) := ⟨rfl, rfl, rfl, by decide +kernel, rfl, by decide +kernel, by decide +kernel⟩
theorem ok_add {f : Addr} {fd : FuncData} (F : Fun K "__add__" "Form.__add__" s_FormD_addD f fd) (T : Txt mg) (R : FormK K C) (hForm : mg "Form" = some (.ref C)) (c_of : CalC P w K mg base C "of" 5 (spOf C)) (c_fpairs : CalM P w K mg base C "_pairs" 2 (spFPairs C)) : FnOk P w K mg base CX0 6 f fd ["self", "other"] (spAdd C) := by
  refine F.ok sc_FormD_addD (fun vs H Q E h => ?_) (fun cdv A outer s H vs Q E hr h => ?_)
  · obtain ⟨p, c, m, y, k0, g, n, rfl, _⟩ := h
    rfl
  · obtain ⟨p, c, m, y, k0, g, n, rfl, hF, hy, hm, hn, k⟩ := h
    have hu := hu_of hr
    refine ⟨_, (pss_cons (ps_if (pt_val (pe_callB call_isi (by rfl) T.n_isinstance (by decide +kernel) (pa_cons (pv 1) (pa_cons (pe_glob (v := .ref C) rfl hForm rfl) pa_nil)))) (pss_one (ps_ret (pe_calC c_of (hr.mono (by decide)) (pe_glob (v := .ref C) rfl hForm rfl) (pa_cons (pe_op op_add (pe_fld (pv 0) rfl) (pe_fld (pv 1) rfl)) (pa_cons (pe_op op_cat (pe_calM0 c_fpairs (hr.mono (by decide)) (pv 0)) (pe_calM0 c_fpairs (hr.mono (by decide)) (pv 1))) pa_nil))))) pss_nil)
      (pss_cons (ps_if (pt_val (pe_callB call_isi (by rfl) T.n_isinstance (by decide +kernel) (pa_cons (pv 1) (pa_cons (pe_bltn (v := .ty "int") rfl T.n_int rfl rfl) pa_nil)))) (pss_one (ps_ret (pe_calC c_of (hr.mono (by decide)) (pe_glob (v := .ref C) rfl hForm rfl) (pa_cons (pe_op op_add (pe_fld (pv 0) rfl) (pv 1)) (pa_cons (pe_calM0 c_fpairs (hr.mono (by decide)) (pv 0)) pa_nil))))) pss_nil)
      (pss_one ps_never))), ?_⟩
    obtain ⟨⟨dx, d, h1, h2⟩, _⟩ := id hF
    rcases hy with ⟨rfl, hg, rfl⟩ | ⟨a, m', rfl, hF', hg, rfl⟩
    · walk_at "rd"
      refine ⟨.int k0, .ref C, .type "int", .ref C, false, rfl, .own C, .base (.int k0), R.i2, ?_⟩
      walk_at "rd"
      refine ⟨.int k0, .ty "int", .type "int", .type "int", true, rfl, .ty "int", .base (.int k0), kit_same _, ?_⟩
      walk_at "rd"
      refine ⟨p, C, dx, _, .int c, rfl, h1, R.cl, R.n1, rfl, ?_⟩
      walk_at "rd"
      refine ⟨p, dx, _, rfl, h1, rfl, ?_⟩
      refine ⟨p, c, m, rfl, hF, by omega, fun l L H1 hP hC hS hLl hl S1 => ?_⟩
      refine ⟨c + k0, l, L, rfl, hP, hS, by omega, fun p' m2 H2 hp' hF2 hl2 hco S2 => ?_⟩
      refine k p' m2 H2 (none_back S1 hp') hF2 (fun s => ?_) (by omega) (same_trans S1 S2)
      rw [hco, hC.val]
      show co m s = co m s + g s
      rw [hg, Int.add_zero]
    · obtain ⟨⟨dx', d', h1', h2'⟩, _⟩ := id hF'
      walk_at "rd"
      refine ⟨.ref a, .ref C, .ref C, .ref C, true, rfl, .own C, form_ty R hF', kit_same _, ?_⟩
      walk_at "rd"
      refine ⟨p, C, dx, _, .int c, rfl, h1, R.cl, R.n1, rfl, ?_⟩
      walk_at "rd"
      refine ⟨a, C, dx', _, .int k0, rfl, h1', R.cl, R.n1, rfl, ?_⟩
      walk_at "rd"
      refine ⟨p, dx, _, rfl, h1, rfl, ?_⟩
      refine ⟨p, c, m, rfl, hF, by omega, fun l L H1 hP hC hS hLl hl S1 => ?_⟩
      walk_at "rd"
      refine ⟨a, dx', _, rfl, S1 _ _ h1', rfl, ?_⟩
      refine ⟨a, k0, m', rfl, hF'.same S1, by omega, fun l' L' H2 hP' hC' hS' hLl' hl' S2 => ?_⟩
      obtain ⟨xs, hx, hp⟩ := hP.same S2
      obtain ⟨xs', hx', hp'⟩ := hP'
      refine ⟨l, l', xs, xs', rfl, rfl, hx, hx', ?_, fun D hD => ?_⟩
      · have e1 := paired_len hp
        have e2 := paired_len hp'
        exact Nat.le_trans (m := 64) (by omega) (by decide)
      walk_at "rd"
      have S3 : Same H2 (upd H2 D (.lst (xs ++ xs'))) := same_new (fun _ _ e => e) hD
      refine ⟨c + k0, D, L ++ L', rfl, ⟨xs ++ xs', upd_same, paired_map (fun _ _ q => q.same S3) (paired_app hp' hp)⟩, fun q hq => ?_, by rw [List.length_append]; omega, fun p' m2 H3 hp3 hF2 hl2 hco S4 => ?_⟩
      · rcases List.mem_append.mp hq with hq | hq
        · exact hS q hq
        · exact hS' q hq
      · rw [List.length_append] at hl2
        have SS := same_trans (same_trans S1 S2) S3
        refine k p' m2 H3 (none_back SS hp3) hF2 (fun s => ?_) (by omega) (same_trans SS S4)
        rw [hco, co_append, hC.val, hC'.val]
        show co m s + co m' s = co m s + g s
        rw [hg]
abbrev s_FormD_raddD : Stmt := inClass (top 17) 12
theorem sc_FormD_raddD : FnScope ["self", "other"] ["self", "other"] (defScope s_FormD_raddD) := ⟨rfl, rfl, rfl, by decide +kernel, rfl, by decide +kernel, by decide +kernel⟩
theorem ok_radd {f : Addr} {fd : FuncData} (F : Fun K "__radd__" "Form.__radd__" s_FormD_raddD f fd) (T : Txt mg) (R : FormK K C) (c_add : CalO P w K mg base C .Add 6 (spAdd C)) : FnOk P w K mg base CX0 7 f fd ["self", "other"] (spRadd C) := by
  refine F.ok sc_FormD_raddD (fun vs H Q E h => ?_) (fun cdv A outer s H vs Q E hr h => ?_)
  · obtain ⟨p, c, m, k0, rfl, _⟩ := h
    rfl
  · obtain ⟨p, c, m, k0, rfl, hF, hm, k⟩ := h
    have hu := hu_of hr
    refine ⟨_, (pss_one (ps_ret (pe_op (op_calO c_add (hr.mono (by decide))) (pv 0) (pv 1)))), ?_⟩
    obtain ⟨⟨dx, d, h1, h2⟩, _⟩ := id hF
    walk_at "rd"
    refine ⟨p, dx, _, rfl, h1, .inl ⟨k0, rfl⟩, p, c, m, .int k0, k0, fun _ => 0, 0, rfl, hF, .inl ⟨rfl, fun _ => rfl, rfl⟩, hm, by omega, fun p' m' H' hp' hF' hco hl S => ?_⟩
    exact k p' m' H' hp' hF' (fun s => (hco s).trans (Int.add_zero _)) hl S
abbrev s_FormD_mulD : Stmt := inClass (top 17) 16
theorem sc_FormD_mulD : FnScope ["self", "other", "symbol", "many"] ["self", "other"] (defScope s_FormD_mulD) := ⟨rfl, rfl, rfl, by decide +kernel, rfl, by decide +kernel, by decide +kernel⟩
theorem ok_mul {f : Addr} {fd : FuncData} (F : Fun K "__mul__" "Form.__mul__" s_FormD_mulD f fd) (T : Txt mg) (R : FormK K C) (hForm : mg "Form" = some (.ref C)) (c_of : CalC P w K mg base C "of" 5 (spOf C)) (c_fpairs : CalM P w K mg base C "_pairs" 2 (spFPairs C)) : FnOk P w K mg base CX0 6 f fd ["self", "other"] (spMul C) := by
  refine F.ok sc_FormD_mulD (fun vs H Q E h => ?_) (fun cdv A outer s H vs Q E hr h => ?_)
  · obtain ⟨p, c, m, k0, rfl, _⟩ := h
    rfl
  · obtain ⟨p, c, m, k0, rfl, hF, hm, hk, hmk, k⟩ := h
    have hu := hu_of hr
    refine ⟨_, (pss_cons (ps_if (pt_val (pe_callB call_isi (by rfl) T.n_isinstance (by decide +kernel) (pa_cons (pv 1) (pa_cons (pe_bltn (v := .ty "int") rfl T.n_int rfl rfl) pa_nil)))) (pss_one (ps_ret (pe_calC c_of (hr.mono (by decide)) (pe_glob (v := .ref C) rfl hForm rfl) (pa_cons (pe_op (op_or op_mul op_mulW) (pe_fld (pv 0) rfl) (pv 1)) (pa_cons (pe_lc (own := [("symbol", 2), ("many", 3)]) (g := gTup _ 2 (gCons (gName 2) (gCons (gName 3) (gNil)))) (by rfl) sc_FormD_mulD.nd (pi_list (pe_calM0 c_fpairs (hr.mono (by decide)) (pv 0))) (blkOk_by (own := [("symbol", 2), ("many", 3)]) (N := ["self", "other", "symbol", "many"]) (sc := defScope s_FormD_mulD) (by decide +kernel)) (fun _ _ _ _ _ => (pg_tup rfl (pgs_cons (pg_name (i := 2) sc_FormD_mulD.nd rfl (Or.inl rfl)) (pgs_cons (pg_name (i := 3) sc_FormD_mulD.nd rfl (Or.inl rfl)) pgs_nil)))) (fun _ _ _ _ _ => pts_nil) (fun _ _ _ _ _ => (pe_tup (pa_cons (pv 2) (pa_cons (pe_op (op_or op_mul op_mulW) (pv 3) (pv 1)) pa_nil))))) pa_nil))))) pss_nil)
      (pss_one ps_never)), ?_⟩
    obtain ⟨⟨dx, d, h1, h2⟩, _⟩ := id hF
    walk_at "rd"
    refine ⟨.int k0, .ty "int", .type "int", .type "int", true, rfl, .ty "int", .base (.int k0), kit_same _, ?_⟩
    walk_at "rd"
    refine ⟨p, C, dx, _, .int c, rfl, h1, R.cl, R.n1, rfl, ?_⟩
    walk_at "rd"
    refine (fun z => hk.elim (fun h => .inl ⟨c, k0, rfl, rfl, h, z⟩) (fun h => .inr ⟨c, k0, rfl, rfl, h, z⟩)) ?_
    walk_at "rd"
    refine ⟨p, dx, _, rfl, h1, rfl, ?_⟩
    refine ⟨p, c, m, rfl, hF, by omega, fun l L H1 hP hC hS hLl hl S1 => ?_⟩
    obtain ⟨xs, hx, hp⟩ := hP
    have hLm : ∀ q ∈ L, MulOk q.2 k0 := fun q hq => by
      have e1 : co m q.1 = q.2 := by rw [← hC.val, co_in hC.nd hq]
      have e2 : q.1 ∈ m.map (·.1) := Classical.byContradiction fun n => hC.nz q hq (by rw [← e1, co_out n])
      obtain ⟨r, hr, e3⟩ := List.mem_map.mp e2
      have e4 : co m r.1 = r.2 := co_in h2.nd hr
      rw [← e1, ← e3, e4]
      exact hmk r hr
    refine ⟨l, rfl, ⟨_, SqL.of hx⟩, fun D hD => lc_list (a := l) (xs := xs) (fun i H' => ∃ acc, H' D = some (.lst acc) ∧ Paired (PairAt H') acc ((L.take i).map fun q => (q.1, q.2 * k0)) ∧ acc.length ≤ i ∧ Same H1 H') ⟨[], upd_same, .nil, Nat.le_refl _, same_new (fun _ _ e => e) hD⟩ (fun i H' _ ⟨_, _, _, _, s5⟩ => SqL.of (s5 _ _ hx)) ?_ ?_⟩
    · rintro i x H' hi ⟨acc, hacc, hpa, hal, S5⟩
      obtain ⟨⟨y, z⟩, hq, t, rfl, ht⟩ := paired_at hp hi
      have hz := hLm _ (List.mem_of_getElem? hq)
      refine ⟨t, _, rfl, SqT.of (S5 _ _ ht), rfl, ?_⟩
      walk_at "rd"
      refine (fun q => hz.elim (fun h => .inl ⟨z, k0, rfl, rfl, h, q⟩) (fun h => .inr ⟨z, k0, rfl, rfl, h, q⟩)) ?_
      walk_at "rd"
      refine ⟨by show 2 ≤ sizeLine; decide, fun t2 ht2 => ?_⟩
      obtain ⟨q1, q2⟩ := push_lc (x := y) (v := z * k0) hacc hpa ht2
      have hzz : acc.length < sizeLine := Nat.lt_of_lt_of_le (m := 64) (by have := (List.getElem?_eq_some_iff.mp hq).1; omega) (by decide)
      refine ⟨acc, q1, hzz, _, upd_same, ?_, ?_, same_over (same_new S5 ht2) hD⟩
      · rw [take_snoc hq, List.map_append]
        exact q2
      · rw [List.length_append]
        exact Nat.succ_le_succ hal
    · rintro H' ⟨acc, hacc, hpa, hal, S5⟩
      rw [paired_len hp, List.take_length] at hpa
      refine ⟨c * k0, D, L.map fun q => (q.1, q.2 * k0), rfl, ⟨acc, hacc, hpa⟩, fun q hq => ?_, by rw [List.length_map]; omega, fun p' m2 H2 hp' hF2 hl2 hco S2 => ?_⟩
      · obtain ⟨r, hr, rfl⟩ := List.mem_map.mp hq
        exact hS r hr
      · rw [List.length_map] at hl2
        refine k p' m2 H2 (none_back (same_trans S1 S5) hp') hF2 (fun s => ?_) (by omega) (same_trans (same_trans S1 S5) S2)
        rw [hco, co_mul, hC.val]
abbrev s_FormD_negD : Stmt := inClass (top 17) 13
theorem sc_FormD_negD : FnScope ["self"] ["self"] (defScope s_FormD_negD) := ⟨rfl, rfl, rfl, by decide +kernel, rfl, by decide +kernel, by decide +kernel⟩
theorem ok_neg {f : Addr} {fd : FuncData} (F : Fun K "__neg__" "Form.__neg__" s_FormD_negD f fd) (T : Txt mg) (R : FormK K C) (c_mul : CalO P w K mg base C .Mult 6 (spMul C)) : FnOk P w K mg base CX0 7 f fd ["self"] (spNeg C) := by
  refine F.ok sc_FormD_negD (fun vs H Q E h => ?_) (fun cdv A outer s H vs Q E hr h => ?_)
  · obtain ⟨p, c, m, rfl, _⟩ := h
    rfl
  · obtain ⟨p, c, m, rfl, hF, hm, k⟩ := h
    have hu := hu_of hr
    refine ⟨_, (pss_one (ps_ret (pe_op (op_calO c_mul (hr.mono (by decide))) (pv 0) (pe_un un_neg pe_int)))), ?_⟩
    obtain ⟨⟨dx, d, h1, h2⟩, _⟩ := id hF
    walk_at "rd"
    refine ⟨p, dx, _, rfl, h1, .inl ⟨-1, rfl⟩, p, c, m, -1, rfl, hF, by omega, MulOk.neg c, fun q _ => MulOk.neg q.2, fun p' m' H' hp' hF' hco hl S => ?_⟩
    rw [show c * -1 = -c by omega] at hF'
    exact k p' m' H' hp' hF' (fun s => (hco s).trans (by show co m s * -1 = -co m s; omega)) hl S
abbrev s_FormD_subD : Stmt := inClass (top 17) 14
theorem sc_FormD_subD : FnScope ["self", "other"] ["self", "other"] (defScope s_FormD_subD) := ⟨rfl, rfl, rfl, by decide +kernel, rfl, by decide +kernel, by decide +kernel⟩
theorem ok_sub {f : Addr} {fd : FuncData} (F : Fun K "__sub__" "Form.__sub__" s_FormD_subD f fd) (T : Txt mg) (R : FormK K C) (c_add : CalO P w K mg base C .Add 6 (spAdd C)) (c_neg : CalU P w K mg base C 7 (spNeg C)) : FnOk P w K mg base CX0 8 f fd ["self", "other"] (spSub C) := by
  refine F.ok sc_FormD_subD (fun vs H Q E h => ?_) (fun cdv A outer s H vs Q E hr h => ?_)
  · obtain ⟨p, c, m, y, k0, g, n, rfl, _⟩ := h
    rfl
  · obtain ⟨p, c, m, y, k0, g, n, rfl, hF, hy, hm, hn, k⟩ := h
    have hu := hu_of hr
    refine ⟨_, (pss_one (ps_ret (pe_op (op_calO c_add (hr.mono (by decide))) (pv 0) (pe_un (un_or un_neg (un_calU c_neg (hr.mono (by decide)))) (pv 1))))), ?_⟩
    obtain ⟨⟨dx, d, h1, h2⟩, _⟩ := id hF
    have out : ∀ (y' : V) (H1 : Hp) (g' : Str → Int) (n' : Nat), Same H H1 → OprAt C H1 y' (-k0) g' n' → (∀ s, g' s = -g s) → n' ≤ n → ∃ a dx fs, V.ref p = .ref a ∧ H1 a = some (.ins C dx fs) ∧ ((∃ i, y' = .int i) ∨ ∃ b dy gs, y' = .ref b ∧ H1 b = some (.ins C dy gs)) ∧ spAdd C [.ref p, y'] H1 Q E0 := fun y' H1 g' n' S1 ho hg hn' => by
      refine ⟨p, dx, _, rfl, S1 _ _ h1, ?_, p, c, m, y', -k0, g', n', rfl, hF.same S1, ho, hm, by omega, fun p' m' H' hp' hF' hco hl S => ?_⟩
      · rcases ho with ⟨rfl, _⟩ | ⟨b, mb, rfl, ⟨⟨dy, _, hb, _⟩, _⟩, _⟩
        · exact .inl ⟨_, rfl⟩
        · exact .inr ⟨b, dy, _, rfl, hb⟩
      · rw [show c + -k0 = c - k0 by omega] at hF'
        exact k p' m' H' (none_back S1 hp') hF' (fun s => (hco s).trans (by show co m s + g' s = co m s - g s; rw [hg]; omega)) (by omega) (same_trans S1 S)
    walk_at "rd"
    rcases hy with ⟨rfl, hg, rfl⟩ | ⟨a, m', rfl, hF', hg, rfl⟩
    · refine .inl ⟨k0, rfl, ?_⟩
      exact out _ _ (fun _ => 0) 0 (fun _ _ e => e) (.inl ⟨rfl, fun _ => rfl, rfl⟩) (fun s => by rw [hg]; rfl) (Nat.le_refl _)
    · obtain ⟨⟨dx', d', h1', h2'⟩, _⟩ := id hF'
      refine .inr ⟨a, dx', _, rfl, h1', a, k0, m', rfl, hF', hn, fun p' m2 H' hp' hF2 hco hl S => ?_⟩
      exact out _ _ (co m2) m2.length S (.inr ⟨p', m2, rfl, hF2, fun _ => rfl, rfl⟩) (fun s => by rw [hco, hg]) hl
abbrev s_FormD_rsubD : Stmt := inClass (top 17) 15
theorem sc_FormD_rsubD : FnScope ["self", "other"] ["self", "other"] (defScope s_FormD_rsubD) := ⟨rfl, rfl, rfl, by decide +kernel, rfl, by decide +kernel, by decide +kernel⟩
theorem ok_rsub {f : Addr} {fd : FuncData} (F : Fun K "__rsub__" "Form.__rsub__" s_FormD_rsubD f fd) (T : Txt mg) (R : FormK K C) (c_add : CalO P w K mg base C .Add 6 (spAdd C)) (c_neg : CalU P w K mg base C 7 (spNeg C)) : FnOk P w K mg base CX0 8 f fd ["self", "other"] (spRsub C) := by
  refine F.ok sc_FormD_rsubD (fun vs H Q E h => ?_) (fun cdv A outer s H vs Q E hr h => ?_)
  · obtain ⟨p, c, m, k0, rfl, _⟩ := h
    rfl
  · obtain ⟨p, c, m, k0, rfl, hF, hm, k⟩ := h
    have hu := hu_of hr
    refine ⟨_, (pss_one (ps_ret (pe_op (op_calO c_add (hr.mono (by decide))) (pe_un (un_calU c_neg (hr.mono (by decide))) (pv 0)) (pv 1)))), ?_⟩
    obtain ⟨⟨dx, d, h1, h2⟩, _⟩ := id hF
    walk_at "rd"
    refine ⟨p, dx, _, rfl, h1, p, c, m, rfl, hF, hm, fun p1 m1 H1 hp1 hF1 hco1 hl1 S1 => ?_⟩
    obtain ⟨⟨dx1, d1, h11, h21⟩, _⟩ := id hF1
    walk_at "rd"
    refine ⟨p1, dx1, _, rfl, h11, .inl ⟨k0, rfl⟩, p1, -c, m1, .int k0, k0, fun _ => 0, 0, rfl, hF1, .inl ⟨rfl, fun _ => rfl, rfl⟩, by omega, by omega, fun p' m' H' hp' hF' hco hl S => ?_⟩
    rw [show -c + k0 = k0 - c by omega] at hF'
    exact k p' m' H' (none_back S1 hp') hF' (fun s => (hco s).trans (by have e1 : co m1 s = -co m s := hco1 s; show co m1 s + 0 = -co m s; omega)) (by omega) (same_trans S1 S)
abbrev s_FormD_rmulD : Stmt := inClass (top 17) 17
theorem sc_FormD_rmulD : FnScope ["self", "other"] ["self", "other"] (defScope s_FormD_rmulD) := ⟨rfl, rfl, rfl, by decide +kernel, rfl, by decide +kernel, by decide +kernel⟩
theorem ok_rmul {f : Addr} {fd : FuncData} (F : Fun K "__rmul__" "Form.__rmul__" s_FormD_rmulD f fd) (T : Txt mg) (R : FormK K C) (c_mul : CalO P w K mg base C .Mult 6 (spMul C)) : FnOk P w K mg base CX0 7 f fd ["self", "other"] (spMul C) := by
  refine F.ok sc_FormD_rmulD (fun vs H Q E h => ?_) (fun cdv A outer s H vs Q E hr h => ?_)
  · obtain ⟨p, c, m, k0, rfl, _⟩ := h
    rfl
  · obtain ⟨p, c, m, k0, rfl, hF, hm, hk, hmk, k⟩ := h
    have hu := hu_of hr
    refine ⟨_, (pss_one (ps_ret (pe_op (op_calO c_mul (hr.mono (by decide))) (pv 0) (pv 1)))), ?_⟩
    obtain ⟨⟨dx, d, h1, h2⟩, _⟩ := id hF
    walk_at "rd"
    exact ⟨p, dx, _, rfl, h1, .inl ⟨k0, rfl⟩, p, c, m, k0, rfl, hF, hm, hk, hmk, k⟩
end
end Ow

set_option Elab.async false
set_option linter.all false
set_option maxRecDepth 100000
set_option maxHeartbeats 4000000
namespace Ow
open PySem PySem.Spec PyProof.Rows L2
local macro_rules | `(tactic| walk_at "rd") => `(tactic| repeat (first | (refine ⟨_, rfl, ?_⟩) | (refine ⟨_, _, rfl, rfl, ?_⟩) | (refine ⟨rfl, ?_⟩) | (refine ⟨_, _, rfl, ?_⟩) | (refine Or.inl ⟨_, rfl, ?_⟩) | (refine ⟨(by first | (show (0 : Int) < (_ : Int); decide) | exact Or.inl ⟨by decide, by decide⟩ | exact Or.inr ⟨by decide, by decide⟩ | exact ⟨by decide, by decide⟩ | exact ⟨by decide, by decide, by decide⟩), ?_⟩)))
def spDigits : Sp := fun vs H Q _ => ∃ (n : Int), vs = [.int n] ∧ 0 ≤ n ∧ n < 10 ^ 60 ∧ ∀ H', Same H H' → Q (.str (Str.ofString (toString n))) H'
def spPrt : Sp := fun vs H Q _ => ∃ (n : Int) (s : Str), vs = [.int n, .str s] ∧ n.natAbs < 10 ^ 60 ∧ isSym s = true ∧ ∀ H', Same H H' → Q (.str (ptx (s, n))) H'
def TextAt (H : Hp) (x : V) (q : Int × Str) : Prop := ∃ t, x = .ref t ∧ H t = some (.tup [.int q.1, .str q.2])
theorem TextAt.same {H H' : Hp} {x : V} {q : Int × Str} (h : TextAt H x q) (s : Same H H') : TextAt H' x q := by
  obtain ⟨t, e, h⟩ := h
  exact ⟨t, e, s _ _ h⟩
def TextsAt (H : Hp) (l : Addr) (ps : Ts) : Prop := ∃ xs, H l = some (.lst xs) ∧ Paired (TextAt H) xs ps
def spJoined : Sp := fun vs H Q _ => ∃ (l : Addr) (q : Int × Str) (r : Ts), vs = [.ref l] ∧ TextsAt H l (q :: r) ∧ OkT (q :: r) ∧ r.length ≤ 100 ∧ ∀ H', Same H H' → Q (.str (outT (q :: r))) H'
def spStr (C : Addr) : Sp := fun vs H Q _ => ∃ (p : Addr) (c : Int) (m : Ps), vs = [.ref p] ∧ FormAt C H p c m ∧ m.length < 64 ∧ c.natAbs < 10 ^ 60 ∧ (∀ s, (co m s).natAbs < 10 ^ 60) ∧
  ∀ L H', Can L (co m) → (∀ q ∈ L, isSym q.1 = true) → L.length ≤ m.length → Same H H' → Q (.str (txt c L)) H'
section
variable {P : Program} {w : World} {K : PySem.W.Frag} {mg : Str → Option Value} {base : Heap} {C : Addr}
abbrev s_digits : Stmt := top 14
theorem sc_digits : FnScope ["number", "parts", "part"] ["number"] (defScope s_digits) := ⟨rfl, rfl, rfl, by decide +kernel, rfl, by decide +kernel, by decide +kernel⟩
theorem ok_digits {f : Addr} {fd : FuncData} (F : Fun K "_digits" "_digits" s_digits f fd) (T : Txt mg) (mg_PART : ∃ t, mg "PART" = some (.int (10 ^ 64) t)) : FnOk P w K mg base CX0 1 f fd ["number"] spDigits := by
  refine F.ok sc_digits (fun vs H Q E h => ?_) (fun cdv A outer s H vs Q E hr h => ?_)
  · obtain ⟨n, rfl, _⟩ := h
    rfl
  · obtain ⟨n, rfl, n0, n1, k⟩ := h
    have hu := hu_of hr
    refine ⟨_, (pss_cons (ps_set (i := 1) sc_digits.nd rfl (Or.inl rfl) (pe_lst pa_nil))
      (pss_cons (ps_while PassesOwn.never (pt_cmpR op_ge (pv 0) (pe_globI rfl mg_PART) (nomark _)) (pss_cons ps_never (pss_one ps_never)))
      (pss_cons (ps_expr (pe_bm PySem.F.plainAttrs_list PySem.F.slot_list_append PySem.F.type_list_append mt_append (pv 1) (pa_cons (pe_callTy call_str_int (by rfl) T.n_str (by decide +kernel) (pa_cons (pv 0) pa_nil)) pa_nil)))
      (pss_one (ps_ret (pe_join pe_str (OpX.pe_rev (pv 1) (po_some (pe_un un_neg pe_int))))))))), ?_⟩
    refine ⟨by show 0 ≤ sizeLine; decide, fun l hl => ?_⟩
    walk_at "rd"
    refine ⟨fun _ σ' H' => σ' = [some (.int n), some (.ref l), none] ∧ H' = upd H l (.lst []), ⟨0, rfl, rfl⟩, ?_⟩
    rintro _ σ' H' ⟨rfl, rfl⟩
    walk_at "rd"
    refine ite2 (fun h => ?_) (fun h => ?_)
    · have := of_decide_eq_true h
      omega
    · walk_at "rd"
      refine ⟨.inl ⟨rfl, _, SqL.of upd_same⟩, ?_⟩
      walk_at "rd"
      refine ⟨log60 (by omega), ?_⟩
      refine ⟨l, _, _, rfl, rfl, upd_same, by decide, ?_⟩
      have S1 : Same H (upd (upd H l (.lst [])) l (.lst ([] ++ [.str (Str.ofString (toString n))]))) := same_over (same_new (fun _ _ e => e) hl) hl
      have hlat : upd (upd H l (.lst [])) l (.lst ([] ++ [.str (Str.ofString (toString n))])) l = some (.lst [.str (Str.ofString (toString n))]) := upd_same
      generalize upd (upd H l (.lst [])) l (.lst ([] ++ [.str (Str.ofString (toString n))])) = H1 at S1 hlat ⊢
      refine ⟨⟨_, rfl⟩, ?_⟩
      walk_at "rd"
      refine ⟨l, _, rfl, SqL.of hlat, fun p hp => ?_⟩
      refine ⟨"", p, [Str.ofString (toString n)], rfl, rfl, .inl (SqL.of upd_same), ?_, ?_⟩
      · have := PyProof.Rows.toString_length_le n0 (by decide : 0 < 60) n1
        show (Str.ofString (toString n)).length + 0 + 1 * 0 ≤ 16777216
        omega
      · have e : Txt.join "" [Str.ofString (toString n)] = Str.ofString (toString n) := StrLaws.glued_eq_join _ _
        rw [e]
        exact k _ (same_new S1 hp)
abbrev s_part : Stmt := top 15
theorem sc_part : FnScope ["coefficient", "symbol", "size"] ["coefficient", "symbol"] (defScope s_part) := ⟨rfl, rfl, rfl, by decide +kernel, rfl, by decide +kernel, by decide +kernel⟩
theorem ok_prt {f : Addr} {fd : FuncData} (F : Fun K "_part" "_part" s_part f fd) (T : Txt mg) (c_digits : Cal P w K mg base "_digits" 1 spDigits) : FnOk P w K mg base CX0 2 f fd ["coefficient", "symbol"] spPrt := by
  refine F.ok sc_part (fun vs H Q E h => ?_) (fun cdv A outer s H vs Q E hr h => ?_)
  · obtain ⟨n, z, rfl, _⟩ := h
    rfl
  · obtain ⟨n, z, rfl, hn, hz, k⟩ := h
    have hu := hu_of hr
    refine ⟨_, (pss_cons (ps_set (i := 2) sc_part.nd rfl (Or.inl rfl) (pe_callB call_abs (by rfl) T.n_abs (by decide +kernel) (pa_cons (pv 0) pa_nil)))
      (pss_cons (ps_if (pt_cmpR op_eq (pv 2) pe_int (nomark _)) (pss_one (ps_ret (pv 1))) pss_nil)
      (pss_one (ps_ret (pe_joined (PJ.cons (pe_fmt (pe_cal c_digits (hr.mono (by decide)) (pa_cons (pv 2) pa_nil))) (PJ.cons pe_str (PJ.cons (pe_fmt (pv 1)) PJ.nil)))))))), ?_⟩
    walk_at "rd"
    refine ite2 (fun h => ?_) (fun h => ?_)
    · have e : az n = 1 := by
        have h' : (if n < 0 then -n else n) = 1 := by simpa using h
        exact h'
      walk_at "rd"
      have := k H (fun _ _ e => e)
      unfold ptx at this
      rw [if_pos e] at this
      exact this
    · have e : az n ≠ 1 := by
        have h' : ¬ (if n < 0 then -n else n) = 1 := by simpa using h
        exact h'
      walk_at "rd"
      have a1 := az_abs n
      have a2 := az_nn n
      refine ⟨a2, (show az n < 10 ^ 60 by omega), fun H1 S1 => ?_⟩
      have d1 := dg_len hn
      have d2 : z.length ≤ 61 := by
        have := sym_small hz
        rw [Array.length_toList] at this
        exact this
      have d3 : ("*" : Str).length = 1 := rfl
      have hs : sizeLine = 16777216 := by decide
      refine .inl ⟨dg n, rfl, by omega, ?_⟩
      refine ⟨_, rfl, by rw [Str.empty_append]; omega, ?_⟩
      refine ⟨_, rfl, by rw [Str.empty_append, app_len]; omega, ?_⟩
      refine ⟨_, rfl, .inl ⟨z, rfl, by omega, ?_⟩⟩
      refine ⟨_, rfl, by rw [Str.empty_append, app_len, app_len]; omega, ?_⟩
      have := k H1 S1
      unfold ptx at this
      rw [if_neg e] at this
      rw [Str.empty_append]
      exact this
abbrev s_joined : Stmt := top 16
theorem sc_joined : FnScope ["parts", "signed", "body", "number", "text"] ["parts"] (defScope s_joined) := ⟨rfl, rfl, rfl, by decide +kernel, rfl, by decide +kernel, by decide +kernel⟩
theorem ok_joined {f : Addr} {fd : FuncData} (F : Fun K "_joined" "_joined" s_joined f fd) (T : Txt mg) : FnOk P w K mg base CX0 1 f fd ["parts"] spJoined := by
  refine F.ok sc_joined (fun vs H Q E h => ?_) (fun cdv A outer s H vs Q E hr h => ?_)
  · obtain ⟨l, q, r, rfl, _⟩ := h
    rfl
  · obtain ⟨l, q, r, rfl, ⟨xs, hx, hp⟩, hT, hl, k⟩ := h
    have hu := hu_of hr
    refine ⟨_, (pss_cons (ps_set (i := 1) sc_joined.nd rfl (Or.inl rfl) (pe_join pe_str (pe_lc (own := [("number", 3), ("text", 4)]) (g := gTup _ 2 (gCons (gName 3) (gCons (gName 4) (gNil)))) (by rfl) sc_joined.nd (pi_list (pv 0)) (blkOk_by (own := [("number", 3), ("text", 4)]) (N := ["parts", "signed", "body", "number", "text"]) (sc := defScope s_joined) (by decide +kernel)) (fun _ _ _ _ _ => (pg_tup rfl (pgs_cons (pg_name (i := 3) sc_joined.nd rfl (Or.inl rfl)) (pgs_cons (pg_name (i := 4) sc_joined.nd rfl (Or.inl rfl)) pgs_nil)))) (fun _ _ _ _ _ => pts_nil) (fun _ _ _ _ _ => (pe_ifExp (pt_cmpR op_lt (pv 3) pe_int (nomark _)) (pe_joined (PJ.cons pe_str (PJ.cons (pe_fmt (pv 4)) PJ.nil))) (pe_joined (PJ.cons pe_str (PJ.cons (pe_fmt (pv 4)) PJ.nil))))))))
      (pss_cons (ps_set (i := 2) sc_joined.nd rfl (Or.inl rfl) (pe_slice sl_str (pv 1) (po_some pe_int) po_none))
      (pss_cons (ps_if (pt_val (pe_m1 PySem.F.slot_str_startswith PySem.F.type_str_startswith mt_startswith (pv 1) pe_str)) (pss_one (ps_ret (pe_joined (PJ.cons pe_str (PJ.cons (pe_fmt (pv 2)) PJ.nil))))) pss_nil)
      (pss_one (ps_ret (pv 2)))))), ?_⟩
    walk_at "rd"
    refine ⟨⟨_, rfl⟩, ?_⟩
    have hs : sizeLine = 16777216 := by decide
    refine ⟨_, rfl, l, rfl, ⟨_, SqL.of hx⟩, fun D hDn => lc_list (a := l) (xs := xs) (fun i H' => H' D = some (.lst ((((q :: r).take i).map fun x => sgn x.1 ++ x.2).map V.str)) ∧ Same H H') ⟨upd_same, same_new (fun _ _ e => e) hDn⟩ (fun i H' _ ⟨_, s5⟩ => SqL.of (s5 _ _ hx)) ?_ ?_⟩
    · rintro i x H' hi ⟨hacc, S5⟩
      obtain ⟨⟨y, z⟩, hq, t, rfl, ht⟩ := paired_at hp hi
      have hz := hT _ (List.mem_of_getElem? hq)
      have hz : z.length ≤ 122 := hz
      have hil : i < r.length + 1 := (List.getElem?_eq_some_iff.mp hq).1
      refine ⟨t, _, rfl, SqT.of (S5 _ _ ht), rfl, ?_⟩
      have fin : ∀ o : Str, o = sgn y ++ z → ∃ acc, H' D = some (.lst acc) ∧ acc.length < sizeLine ∧ (upd H' D (.lst (acc ++ [.str o])) D = some (.lst ((((q :: r).take (i + 1)).map fun x => sgn x.1 ++ x.2).map V.str)) ∧ Same H (upd H' D (.lst (acc ++ [.str o])))) := fun o e => by
        refine ⟨_, hacc, ?_, ?_, same_over S5 hDn⟩
        · rw [List.length_map, List.length_map, List.length_take, List.length_cons]
          omega
        · rw [upd_same, List.take_succ, hq, List.map_append, List.map_append, e]
          rfl
      walk_at "rd"
      have e0 : (" - " : Str).length = 3 := rfl
      have e1 : (" + " : Str).length = 3 := rfl
      refine ite2 (fun h => ?_) (fun h => ?_)
      · have h0 : y < 0 := of_decide_eq_true h
        refine ⟨_, rfl, by rw [Str.empty_append]; omega, ?_⟩
        refine ⟨_, rfl, .inl ⟨z, rfl, by omega, ?_⟩⟩
        refine ⟨_, rfl, by rw [Str.empty_append, app_len]; omega, ?_⟩
        refine fin _ ?_
        unfold sgn
        rw [if_pos h0, Str.empty_append]
      · have h0 : ¬ y < 0 := fun z => h (decide_eq_true z)
        refine ⟨_, rfl, by rw [Str.empty_append]; omega, ?_⟩
        refine ⟨_, rfl, .inl ⟨z, rfl, by omega, ?_⟩⟩
        refine ⟨_, rfl, by rw [Str.empty_append, app_len]; omega, ?_⟩
        refine fin _ ?_
        unfold sgn
        rw [if_neg h0, Str.empty_append]
    · rintro H' ⟨hacc, S5⟩
      rw [paired_len hp, List.take_length] at hacc
      refine ⟨"", D, _, rfl, rfl, .inl (SqL.of hacc), ?_, ?_⟩
      · have := join_bound hT
        rw [List.length_cons] at this
        show _ + _ * 0 ≤ 16777216
        omega
      rw [join_all]
      have hal := allT_len hT
      have hol := outT_len hT
      rw [List.length_cons] at hal hol
      walk_at "rd"
      refine ⟨by omega, ?_⟩
      rw [cut_all]
      walk_at "rd"
      refine ⟨⟨_, rfl⟩, _, _, rfl, rfl, _, rfl, ?_⟩
      rw [start_all]
      have kk := k H' S5
      refine ite2 (fun h => ?_) (fun h => ?_)
      · have h0 : q.1 < 0 := of_decide_eq_true h
        have e : outT (q :: r) = "-" ++ (q.2 ++ allT r) := if_pos h0
        have e1 : ("-" : Str).length = 1 := rfl
        rw [e] at kk hol
        rw [app_len] at hol
        refine ⟨_, rfl, by rw [Str.empty_append]; omega, ?_⟩
        refine ⟨_, rfl, .inl ⟨_, rfl, by omega, ?_⟩⟩
        refine ⟨_, rfl, by rw [Str.empty_append, app_len]; omega, ?_⟩
        rw [Str.empty_append]
        exact kk
      · have h0 : ¬ q.1 < 0 := fun z => h (decide_eq_true z)
        have e : outT (q :: r) = q.2 ++ allT r := if_neg h0
        rw [e] at kk
        walk_at "rd"
        exact kk
abbrev s_FormD_strD : Stmt := inClass (top 17) 18
theorem sc_FormD_strD : FnScope ["self", "parts", "symbol", "many"] ["self"] (defScope s_FormD_strD) := ⟨rfl, rfl, rfl, by decide +kernel, rfl, by decide +kernel, by decide +kernel⟩
theorem ok_str {f : Addr} {fd : FuncData} (F : Fun K "__str__" "Form.__str__" s_FormD_strD f fd) (T : Txt mg) (R : FormK K C) (c_digits : Cal P w K mg base "_digits" 1 spDigits) (c_prt : Cal P w K mg base "_part" 2 spPrt) (c_joined : Cal P w K mg base "_joined" 1 spJoined) (c_fpairs : CalM P w K mg base C "_pairs" 2 (spFPairs C)) : FnOk P w K mg base CX0 3 f fd ["self"] (spStr C) := by
  refine F.ok sc_FormD_strD (fun vs H Q E h => ?_) (fun cdv A outer s H vs Q E hr h => ?_)
  · obtain ⟨p, c, m, rfl, _⟩ := h
    rfl
  · obtain ⟨p, c, m, rfl, hF, hm, hc, hb, k⟩ := h
    have hu := hu_of hr
    refine ⟨_, (pss_cons (ps_setLc (i := 1) (own := [("symbol", 2), ("many", 3)]) (g := gTup _ 2 (gCons (gName 2) (gCons (gName 3) (gNil)))) (by rfl) sc_FormD_strD.nd rfl rfl (sw_true rfl rfl rfl (by decide +kernel)) (pi_list (pe_calM0 c_fpairs (hr.mono (by decide)) (pv 0))) (blkOk_by (own := [("symbol", 2), ("many", 3)]) (N := ["self", "parts", "symbol", "many"]) (sc := defScope s_FormD_strD) (by decide +kernel)) (fun _ _ _ _ _ => (pg_tup rfl (pgs_cons (pg_name (i := 2) sc_FormD_strD.nd rfl (Or.inl rfl)) (pgs_cons (pg_name (i := 3) sc_FormD_strD.nd rfl (Or.inl rfl)) pgs_nil)))) (fun _ _ _ _ _ => pts_nil) (fun _ _ _ _ _ => (pe_tup (pa_cons (pv 3) (pa_cons (pe_cal c_prt (hr.mono (by decide)) (pa_cons (pv 3) (pa_cons (pv 2) pa_nil))) pa_nil)))))
      (pss_cons (ps_if (PW.pt (pw_or (pt_cmpR op_ne (pe_fld (pv 0) rfl) pe_int (nomark _)) (pw_or1 (pt_not (pt_truth (pv 1) (by intro _; rfl)))))) (pss_one (ps_expr (pe_bm PySem.F.plainAttrs_list PySem.F.slot_list_insert PySem.F.type_list_insert mt_insert (pv 1) (pa_cons pe_int (pa_cons (pe_tup (pa_cons (pe_fld (pv 0) rfl) (pa_cons (pe_cal c_digits (hr.mono (by decide)) (pa_cons (pe_callB call_abs (by rfl) T.n_abs (by decide +kernel) (pa_cons (pe_fld (pv 0) rfl) pa_nil)) pa_nil)) pa_nil))) pa_nil))))) pss_nil)
      (pss_one (ps_ret (pe_callTy SkE.call_str_str (by rfl) T.n_str (by decide +kernel) (pa_cons (pe_cal c_joined (hr.mono (by decide)) (pa_cons (pv 1) pa_nil)) pa_nil)))))), ?_⟩
    obtain ⟨⟨dx, d, h1, h2⟩, hn⟩ := id hF
    walk_at "rd"
    refine ⟨p, dx, _, rfl, h1, rfl, p, c, m, rfl, hF, hm, fun l L H1 hP hC hS hLl hl S1 => ?_⟩
    obtain ⟨xs, hx, hp⟩ := hP
    have hs : sizeLine = 16777216 := by decide
    have hL60 : ∀ q ∈ L, q.2.natAbs < 10 ^ 60 := fun q hq => by
      rw [form_mem (ps := m) hC.nd hC.val hq]
      exact hb _
    refine ⟨l, rfl, ⟨_, SqL.of hx⟩, fun D hDn => lc_list (a := l) (xs := xs) (fun i H' => ∃ acc, H' D = some (.lst acc) ∧ Paired (TextAt H') acc ((L.take i).map fun q => (q.2, ptx q)) ∧ Same H1 H') ⟨[], upd_same, .nil, same_new (fun _ _ e => e) hDn⟩ (fun i H' _ ⟨_, _, _, s5⟩ => SqL.of (s5 _ _ hx)) ?_ ?_⟩
    · rintro i x H' hi ⟨acc, hacc, hpa, S5⟩
      obtain ⟨⟨y, z⟩, hq, t, rfl, ht⟩ := paired_at hp hi
      refine ⟨t, _, rfl, SqT.of (S5 _ _ ht), rfl, ?_⟩
      walk_at "rd"
      refine ⟨hL60 _ (List.mem_of_getElem? hq), hS _ (List.mem_of_getElem? hq), fun H3 S3 => ?_⟩
      walk_at "rd"
      refine ⟨by show 2 ≤ sizeLine; decide, fun t2 ht2 => ?_⟩
      have Dt : t2 ≠ D := fun z => by rw [z, S3 _ _ hacc] at ht2; cases ht2
      have St := same_trans S3 (same_new (o := .tup [.int z, .str (ptx (y, z))]) (fun _ _ e => e) ht2)
      have hacc' := St _ _ hacc
      have hacl : acc.length < sizeLine := by
        have e1 := paired_len hpa
        rw [List.length_map, List.length_take] at e1
        omega
      refine ⟨acc, hacc', hacl, _, upd_same, ?_, same_over (same_trans S5 St) hDn⟩
      rw [take_snoc hq, List.map_append]
      refine paired_snoc ⟨t2, rfl, (upd_ne Dt).trans upd_same⟩ (paired_map (fun a q hq => ?_) hpa)
      obtain ⟨u, rfl, hu⟩ := hq.same St
      exact ⟨u, rfl, (upd_ne (ne_of hu hacc' (by intro z; cases z))).trans hu⟩
    · rintro H2 ⟨acc, hacc, hpa, S5⟩
      rw [paired_len hp, List.take_length] at hpa
      walk_at "rd"
      have S2 := same_trans S1 S5
      have hok : OkT (partsT c L) := partsT_ok hc hL60 hS
      have hln := partsT_len c L
      refine ⟨p, C, dx, _, .int c, rfl, S2 _ _ h1, R.cl, R.n1, rfl, ?_⟩
      have ins : c ≠ 0 ∨ L = [] → partsT c L = (c, dg c) :: L.map fun q => (q.2, ptx q) := fun h => by
        unfold partsT
        rw [if_pos h]
        rfl
      have acl : acc.length < sizeLine := by
        have e1 := paired_len hpa
        rw [List.length_map] at e1
        omega
      have a1 := az_abs c
      have a2 := az_nn c
      have add : ∀ {q r}, partsT c L = q :: r → ∀ (H3 : Hp) (l3 : Addr), Same H H3 → TextsAt H3 l3 (q :: r) → spJoined [.ref l3] H3 (fun x H' => ∃ a, [x] = [V.str a] ∧ Q (.str a) H') E0 := fun {q r} e H3 l3 S3 hT => by
        rw [e] at hok hln
        rw [List.length_cons] at hln
        refine ⟨l3, q, r, rfl, hT, hok, by omega, fun H' S' => ⟨_, rfl, ?_⟩⟩
        have := k L H' hC hS hLl (same_trans S3 S')
        unfold txt at this
        rw [e] at this
        exact this
      walk_at "rd"
      refine ite2 (fun h => ?_) (fun h => ?_)
      · have h0 : c ≠ 0 := by simpa using h
        refine ite2 (fun _ => ?_) (fun h => absurd rfl h)
        walk_at "rd"
        refine ⟨.inl ⟨rfl, _, SqL.of hacc⟩, ?_⟩
        walk_at "rd"
        refine ⟨p, C, dx, _, .int c, rfl, S2 _ _ h1, R.cl, R.n1, rfl, ?_⟩
        walk_at "rd"
        refine ⟨p, C, dx, _, .int c, rfl, S2 _ _ h1, R.cl, R.n1, rfl, ?_⟩
        walk_at "rd"
        refine ⟨a2, (show az c < 10 ^ 60 by omega), fun H3 S3 => ?_⟩
        walk_at "rd"
        refine ⟨by show 2 ≤ sizeLine; decide, fun t ht => ?_⟩
        have Dt : t ≠ D := fun z => by rw [z, S3 _ _ hacc] at ht; cases ht
        have S4 := same_trans S3 (same_new (o := .tup [.int c, .str (dg c)]) (fun _ _ e => e) ht)
        have hacc4 := S4 _ _ hacc
        have DH : H D = none := none_back S1 hDn
        walk_at "rd"
        refine ⟨D, acc, 0, _, rfl, rfl, hacc4, acl, by decide, by decide, ?_⟩
        walk_at "rd"
        refine add (ins (.inl h0)) _ D (same_over (same_trans S2 S4) DH) ⟨_, upd_same, ?_⟩
        refine .cons ⟨t, rfl, (upd_ne Dt).trans upd_same⟩ (paired_map (fun a q hq => ?_) hpa)
        obtain ⟨u, rfl, hu⟩ := hq.same S4
        exact ⟨u, rfl, (upd_ne (ne_of hu hacc4 (by intro z; cases z))).trans hu⟩
      · have h0 : c = 0 := by simpa using h
        refine ⟨_, rfl, !acc.isEmpty, .inl ⟨acc, SqL.of hacc, rfl⟩, ?_⟩
        have hlen : acc.length = L.length := by
          rw [paired_len hpa, List.length_map]
        refine ite2 (fun h => ?_) (fun h => ?_)
        · have hL0 : L = [] := by
            cases acc with
            | nil => exact List.eq_nil_of_length_eq_zero hlen.symm
            | cons a as => cases h
          walk_at "rd"
          refine ⟨.inl ⟨rfl, _, SqL.of hacc⟩, ?_⟩
          walk_at "rd"
          refine ⟨p, C, dx, _, .int c, rfl, S2 _ _ h1, R.cl, R.n1, rfl, ?_⟩
          walk_at "rd"
          refine ⟨p, C, dx, _, .int c, rfl, S2 _ _ h1, R.cl, R.n1, rfl, ?_⟩
          walk_at "rd"
          refine ⟨a2, (show az c < 10 ^ 60 by omega), fun H3 S3 => ?_⟩
          walk_at "rd"
          refine ⟨by show 2 ≤ sizeLine; decide, fun t ht => ?_⟩
          have Dt : t ≠ D := fun z => by rw [z, S3 _ _ hacc] at ht; cases ht
          have S4 := same_trans S3 (same_new (o := .tup [.int c, .str (dg c)]) (fun _ _ e => e) ht)
          have hacc4 := S4 _ _ hacc
          have DH : H D = none := none_back S1 hDn
          walk_at "rd"
          refine ⟨D, acc, 0, _, rfl, rfl, hacc4, acl, by decide, by decide, ?_⟩
          walk_at "rd"
          refine add (ins (.inr hL0)) _ D (same_over (same_trans S2 S4) DH) ⟨_, upd_same, ?_⟩
          refine .cons ⟨t, rfl, (upd_ne Dt).trans upd_same⟩ (paired_map (fun a q hq => ?_) hpa)
          obtain ⟨u, rfl, hu⟩ := hq.same S4
          exact ⟨u, rfl, (upd_ne (ne_of hu hacc4 (by intro z; cases z))).trans hu⟩
        · walk_at "rd"
          have hL0 : L ≠ [] := fun z => h (by
            rw [z] at hlen
            rw [List.eq_nil_of_length_eq_zero hlen]
            rfl)
          cases hLL : L with
          | nil => exact absurd hLL hL0
          | cons q0 r0 =>
            have e : partsT c L = (q0.2, ptx q0) :: r0.map fun q => (q.2, ptx q) := by
              unfold partsT
              rw [if_neg (by simp [h0, hL0]), hLL]
              rfl
            refine add e _ D S2 ⟨acc, hacc, ?_⟩
            rw [hLL] at hpa
            exact hpa
end
end Ow

set_option Elab.async false
set_option linter.all false
set_option maxRecDepth 100000
set_option maxHeartbeats 4000000
namespace Ow
open PySem PySem.Spec PyProof.Rows L2
local macro_rules | `(tactic| walk_at "rd") => `(tactic| repeat (first | (refine ⟨_, rfl, ?_⟩) | (refine ⟨_, _, rfl, rfl, ?_⟩) | (refine ⟨rfl, ?_⟩) | (refine ⟨_, _, rfl, ?_⟩) | (refine Or.inl ⟨_, rfl, ?_⟩) | (refine ⟨(by first | (show (0 : Int) < (_ : Int); decide) | exact Or.inl ⟨by decide, by decide⟩ | exact Or.inr ⟨by decide, by decide⟩ | exact ⟨by decide, by decide⟩ | exact ⟨by decide, by decide, by decide⟩), ?_⟩)))
theorem form_keys {C : Addr} {H : Hp} {p : Addr} {c : Int} {m : Ps} (h : FormAt C H p c m) (s : Str) : s ∈ m.map (·.1) ↔ co m s ≠ 0 := by
  obtain ⟨⟨_, _, _, hD⟩, hn⟩ := h
  constructor
  · intro hs
    obtain ⟨q, hq, rfl⟩ := List.mem_map.mp hs
    rw [co_in hD.nd hq]
    exact hn q hq
  · intro hs
    exact Classical.byContradiction fun z => hs (co_out z)
theorem nodup_le : ∀ {K L : List Str}, L.Nodup → (∀ s ∈ L, s ∈ K) → L.length ≤ K.length := by
  intro K
  induction K with
  | nil =>
    intro L _ h
    cases L with
    | nil => exact Nat.le_refl _
    | cons x r => exact absurd (h x List.mem_cons_self) (by simp)
  | cons k K ih =>
    intro L nd h
    have h1 := ih (L := L.filter fun s => decide (s ≠ k)) (nd.sublist List.filter_sublist) fun s hs => by
      have h2 := List.mem_filter.mp hs
      have h3 := of_decide_eq_true h2.2
      rcases List.mem_cons.mp (h s h2.1) with e | e
      · exact absurd e h3
      · exact e
    have h2 : L.length ≤ (L.filter fun s => decide (s ≠ k)).length + 1 := by
      clear ih h h1
      induction L with
      | nil => simp
      | cons x r ih =>
        rw [List.nodup_cons] at nd
        by_cases e : x = k
        · rw [List.filter_cons, if_neg (by simp [e])]
          have : r.filter (fun s => decide (s ≠ k)) = r := List.filter_eq_self.mpr fun s hs => by
            have : s ≠ k := fun z => nd.1 (by rw [e, ← z]; exact hs)
            simp [this]
          rw [this]
          exact Nat.le_refl _
        · rw [List.filter_cons, if_pos (by simp [e])]
          have := ih nd.2
          rw [List.length_cons, List.length_cons]
          omega
    rw [List.length_cons]
    omega
theorem mk_plain {C : Addr} {H : Hp} {Q : VK} {E : XK} {vs : List V} {c : Int} (hc : KwX.kwFirst (.int 0) vs = .int c) (k : ∀ p H', H p = none → FormAt C H' p c [] → Same H H' → Q (.ref p) H') : KwX.MkQ C (spInit C) E (.int 0) vs [] H Q := by
  intro x dx e hx hdx he n1 n2 n3
  rw [hc]
  have S7 : Same H (upd H dx (.own x)) := same_new (fun _ _ e => e) hdx
  have x1 : upd H dx (.own x) x = none := (upd_ne n1.symm).trans hx
  have S8 := same_new (o := .ins C dx []) S7 x1
  have e1 : upd (upd H dx (.own x)) x (.ins C dx []) e = none := (upd_ne n2).trans ((upd_ne n3).trans he)
  have S9 := same_new (o := .dK (KwX.keyed [])) S8 e1
  exact ⟨x, e, dx, c, [], rfl, (upd_ne n2.symm).trans upd_same, ⟨upd_same, List.nodup_nil, fun _ h => (by cases h)⟩, by decide, fun d' H2 hd' hx2 hD2 St => ⟨rfl, k x H2 hx ⟨⟨dx, d', hx2, hD2⟩, fun _ h => (by cases h)⟩ fun a o q => St a o (ne_of_none q hx) (S9 _ _ q)⟩⟩
/-- the two answers of == -/
def spEqB (C : Addr) : Sp := fun vs H Q _ => ∃ (p : Addr) (c : Int) (m : Ps) (y : V), vs = [.ref p, y] ∧ FormAt C H p c m ∧
  ((((∃ i, y = .int i) ∨ (∃ z, y = .str z) ∨ ∃ a xs, y = .ref a ∧ H a = some (.tup xs)) ∧ Q (.bl false) H) ∨
   ∃ (q : Addr) (c2 : Int) (m2 : Ps), y = .ref q ∧ FormAt C H q c2 m2 ∧ ∀ r : Bool, (r = true ↔ c = c2 ∧ ∀ s, co m s = co m2 s) → Q (.bl r) H)
section
variable {P : Program} {w : World} {K : PySem.W.Frag} {mg : Str → Option Value} {base : Heap} {C : Addr}
abbrev s_FormD_eqD : Stmt := inClass (top 17) 10
theorem sc_FormD_eqD : FnScope ["self", "other"] ["self", "other"] (defScope s_FormD_eqD) := ⟨rfl, rfl, rfl, by decide +kernel, rfl, by decide +kernel, by decide +kernel⟩
theorem ok_eq {f : Addr} {fd : FuncData} (F : Fun K "__eq__" "Form.__eq__" s_FormD_eqD f fd) (T : Txt mg) (R : FormK K C) (kS : PySem.W.kitOne K (.type "str") (.ref C) = some false) (kT : PySem.W.kitOne K (.type "tuple") (.ref C) = some false) (hForm : mg "Form" = some (.ref C)) : FnOk P w K mg base CX0 1 f fd ["self", "other"] (spEqB C) := by
  refine F.ok sc_FormD_eqD (fun vs H Q E h => ?_) (fun cdv A outer s H vs Q E hr h => ?_)
  · obtain ⟨p, c, m, y, rfl, _⟩ := h
    rfl
  · obtain ⟨p, c, m, y, rfl, hF, hy⟩ := h
    have hu := hu_of hr
    refine ⟨_, (pss_one (ps_ret (pe_and (pe_callB call_isi (by rfl) T.n_isinstance (by decide +kernel) (pa_cons (pv 1) (pa_cons (pe_glob (v := .ref C) rfl hForm rfl) pa_nil))) (pe_and (pe_cmpR op_eq (pe_fld (pv 0) rfl) (pe_fld (pv 1) rfl) (nomark _)) (pe_one (pe_cmpR (OpX.op_eq_dictI hr.units0) (pe_fld (pv 0) rfl) (pe_fld (pv 1) rfl) (nomark _))))))), ?_⟩
    obtain ⟨⟨dx, d, h1, h2⟩, hn⟩ := id hF
    rcases hy with ⟨⟨i, rfl⟩ | ⟨z, rfl⟩ | ⟨a, xs, rfl, ha⟩, k⟩ | ⟨q, c2, m2, rfl, hG, k⟩
    · walk_at "rd"
      refine ⟨.int i, .ref C, .type "int", .ref C, false, rfl, .own C, .base (.int i), R.i2, ?_⟩
      refine ⟨false, rfl, ?_⟩
      exact k
    · walk_at "rd"
      refine ⟨.str z, .ref C, .type "str", .ref C, false, rfl, .own C, .base (.str z), kS, ?_⟩
      refine ⟨false, rfl, ?_⟩
      exact k
    · walk_at "rd"
      refine ⟨.ref a, .ref C, .type "tuple", .ref C, false, rfl, .own C, .base (.tup ha), kT, ?_⟩
      refine ⟨false, rfl, ?_⟩
      exact k
    · obtain ⟨⟨dy, d2, g1, g2⟩, hn2⟩ := id hG
      walk_at "rd"
      refine ⟨.ref q, .ref C, .ref C, .ref C, true, rfl, .own C, form_ty R hG, kit_same _, ?_⟩
      refine ⟨true, rfl, ?_⟩
      rw [if_pos rfl]
      refine ⟨_, rfl, p, C, dx, _, .int c, rfl, h1, R.cl, R.n1, rfl, ?_⟩
      refine ⟨_, rfl, q, C, dy, _, .int c2, rfl, g1, R.cl, R.n1, rfl, ?_⟩
      refine ⟨rfl, decide (V.int c = V.int c2), rfl, ?_⟩
      by_cases hc : c = c2
      · rw [if_pos (by rw [hc]; simp)]
        refine ⟨_, rfl, p, C, dx, _, .ref d, rfl, h1, R.cl, R.n2, rfl, ?_⟩
        refine ⟨_, rfl, q, C, dy, _, .ref d2, rfl, g1, R.cl, R.n2, rfl, ?_⟩
        refine ⟨d, d2, m, m2, rfl, rfl, h2.at_, g2.at_, fun r hr => k r ?_⟩
        rw [hr]
        constructor
        · rintro ⟨e1, e2⟩
          refine ⟨hc, ?_⟩
          have sub : ∀ s, s ∈ m.map (·.1) → co m2 s = co m s := fun s hs => by
            obtain ⟨x, hx, rfl⟩ := List.mem_map.mp hs
            have e3 := e2 x hx
            have e4 := kvI_val m2 x.1 g2.nd
            rw [e3] at e4
            injection e4 with e4
            rw [← e4, co_in h2.nd hx]
          have eq : ∀ s, s ∈ m2.map (·.1) → s ∈ m.map (·.1) := by
            have l1 : (m.map (·.1)).length = (m2.map (·.1)).length := by rw [List.length_map, List.length_map, e1]
            have s1 : ∀ s, s ∈ m.map (·.1) → s ∈ m2.map (·.1) := fun s hs => by
              rw [form_keys hG, sub s hs]
              exact (form_keys hF s).mp hs
            intro s hs
            refine Classical.byContradiction fun ns => ?_
            have := nodup_le (K := m2.map (·.1)) (L := s :: m.map (·.1)) (List.nodup_cons.mpr ⟨ns, h2.nd⟩) fun x hx => by
              rcases List.mem_cons.mp hx with rfl | hx
              · exact hs
              · exact s1 x hx
            rw [List.length_cons] at this
            omega
          intro s
          by_cases e : s ∈ m.map (·.1)
          · exact (sub s e).symm
          · rw [co_out e, co_out fun z => e (eq s z)]
        · rintro ⟨_, e⟩
          constructor
          · rw [← List.length_map (as := m) (·.1), ← List.length_map (as := m2) (·.1)]
            exact (perm_of_mem h2.nd g2.nd fun s => by rw [form_keys hF, form_keys hG, e s]).length_eq
          · intro x hx
            have hin : x.1 ∈ m2.map (·.1) := by
              rw [form_keys hG, ← e]
              exact (form_keys hF _).mp (List.mem_map.mpr ⟨x, hx, rfl⟩)
            rw [kvI_get g2.nd hin, ← e, co_in h2.nd hx]
      · rw [if_neg (by simp [hc])]
        exact k false ⟨fun z => (by cases z), fun z => absurd z.1 hc⟩
end
end Ow

set_option Elab.async false
set_option linter.all false
set_option maxRecDepth 100000
set_option maxHeartbeats 8000000
namespace Ow
open PySem PySem.Spec PyProof.Rows L2
local macro_rules | `(tactic| walk_at "rd") => `(tactic| repeat (first | (refine ⟨_, rfl, ?_⟩) | (refine ⟨_, _, rfl, rfl, ?_⟩) | (refine ⟨rfl, ?_⟩) | (refine ⟨_, _, rfl, ?_⟩) | (refine Or.inl ⟨_, rfl, ?_⟩) | (refine ⟨(by first | (show (0 : Int) < (_ : Int); decide) | exact Or.inl ⟨by decide, by decide⟩ | exact Or.inr ⟨by decide, by decide⟩ | exact ⟨by decide, by decide⟩ | exact ⟨by decide, by decide, by decide⟩), ?_⟩)))
section
variable {P : Program} {w : World} {K : PySem.W.Frag} {mg : Str → Option Value} {base : Heap} {C fi : Addr}
abbrev s_law : Stmt := top 28
theorem sc_law : FnScope ["script", "at", "bag", "way", "due", "constant", "pairs", "second", "others", "form", "more"] ["script"] (defScope s_law) := ⟨rfl, rfl, rfl, by decide +kernel, rfl, by decide +kernel, by decide +kernel⟩
theorem ok_law {f : Addr} {fd : FuncData} (F : Fun K "law" "law" s_law f fd) (T : Txt mg) (R : FormK K C) (M : Mk K C fi) (N : OpX.NeC K C) (sb2 : PySem.W.subIn K (.ref C) (.type "int") = some false) (hForm : mg "Form" = some (.ref C)) (c_bag : Cal P w K mg base "_law_bag" 1 (spBag K)) (c_take : Cal P w K mg base "_law_take" 1 spTake) (c_number : Cal P w K mg base "_law_number" 2 spNumber) (c_symbol : Cal P w K mg base "_law_symbol" 2 spSymbol) (c_pairs : Cal P w K mg base "_law_pairs" 3 spPairs) (c_turned : Cal P w K mg base "_law_turned" 3 spTurned) (c_sums : Cal P w K mg base "_law_sums" 1 spSums4) (c_same : Cal P w K mg base "_law_same" 1 spSame)
  (c_init : KwX.KwOk P w K mg base 3 fi (.int 0) (spInit C)) (c_of : CalC P w K mg base C "of" 5 (spOf C)) (c_str : OpX.CalG P w K mg base C "__str__" 3 (spStr C)) (c_fwritten : CalM P w K mg base C "written" 3 (spFWritten C)) (c_eq : OpX.CalE P w K mg base C 1 (spEqB C)) (c_add : CalO P w K mg base C .Add 6 (spAdd C)) (c_sub : CalO P w K mg base C .Sub 8 (spSub C)) : FnOk P w K mg base CX0 12 f fd ["script"] (spLaw K) := by
  refine F.ok sc_law (fun vs H Q E h => ?_) (fun cdv A outer s H vs Q E hr h => ?_)
  · obtain ⟨a, ns, rfl, _⟩ := h
    rfl
  · obtain ⟨a, ns, rfl, hS, hl, k⟩ := h
    have hu := hu_of hr
    refine ⟨_, (pss_cons (ps_for PassesOwn.never rfl (pi_range1 rfl T.n_range (pa_cons (pe_callB (call_max2 rfl) (by rfl) T.n_max (by decide +kernel) (pa_cons pe_int (pa_cons (pe_callB (call_min2 rfl) (by rfl) T.n_min (by decide +kernel) (pa_cons pe_int (pa_cons (pe_callB call_len_seq (by rfl) T.n_len (by decide +kernel) (pa_cons (pv 0) pa_nil)) pa_nil))) pa_nil))) pa_nil)) (pg_name (i := 1) sc_law.nd rfl (Or.inl rfl))
      (pss_cons (ps_set (i := 2) sc_law.nd rfl (Or.inl rfl) (pe_cal c_bag (hr.mono (by decide)) (pa_cons (pv 0) (pa_cons (pv 1) pa_nil))))
      (pss_cons (ps_par (i := 5) (j := 6) (by rfl) sc_law.nd rfl rfl (by decide) rfl rfl (pa_cons (pe_cal c_number (hr.mono (by decide)) (pa_cons (pv 2) pa_nil)) (pa_cons (pe_cal c_pairs (hr.mono (by decide)) (pa_cons (pv 2) (pa_cons pe_int pa_nil))) pa_nil)) (by rfl))
      (pss_cons (ps_par (i := 7) (j := 8) (by rfl) sc_law.nd rfl rfl (by decide) rfl rfl (pa_cons (pv 5) (pa_cons (pe_cal c_turned (hr.mono (by decide)) (pa_cons (pv 2) (pa_cons (pv 6) pa_nil))) pa_nil)) (by rfl))
      (pss_cons (ps_set (i := 3) sc_law.nd rfl (Or.inl rfl) (pe_cal c_take (hr.mono (by decide)) (pa_cons (pv 2) (pa_cons pe_int pa_nil))))
      (pss_cons (ps_if (pt_cmpR op_eq (pv 3) pe_int (nomark _)) (pss_one (ps_expr (pe_bm PySem.F.plainAttrs_list PySem.F.slot_list_append PySem.F.type_list_append mt_append (pv 8) (pa_cons (pe_tup (pa_cons (pe_cal c_symbol (hr.mono (by decide)) (pa_cons (pv 2) pa_nil)) (pa_cons (pe_cal c_number (hr.mono (by decide)) (pa_cons (pv 2) pa_nil)) pa_nil))) pa_nil)))) pss_nil)
      (pss_cons (ps_if (pt_cmpR op_eq (pv 3) pe_int (nomark _)) (pss_one (ps_set (i := 7) sc_law.nd rfl (Or.inl rfl) (pe_op op_add (pv 7) (pe_cal c_number (hr.mono (by decide)) (pa_cons (pv 2) pa_nil))))) pss_nil)
      (pss_cons (ps_if (pt_cmpR op_eq (pv 3) pe_int (nomark _)) (pss_one (ps_set (i := 8) sc_law.nd rfl (Or.inl rfl) (pe_cal c_pairs (hr.mono (by decide)) (pa_cons (pv 2) (pa_cons pe_int pa_nil))))) pss_nil)
      (pss_cons (ps_set (i := 4) sc_law.nd rfl (Or.inl rfl) (pe_and (pe_cmpR op_eq (pv 5) (pv 7) (nomark _)) (pe_one (pe_cal c_same (hr.mono (by decide)) (pa_cons (pe_cal c_sums (hr.mono (by decide)) (pa_cons (pv 6) pa_nil)) (pa_cons (pe_cal c_sums (hr.mono (by decide)) (pa_cons (pv 8) pa_nil)) pa_nil))))))
      (pss_cons (ps_par (i := 9) (j := 10) (by rfl) sc_law.nd rfl rfl (by decide) rfl rfl (pa_cons (pe_calC c_of (hr.mono (by decide)) (pe_glob (v := .ref C) rfl hForm rfl) (pa_cons (pv 5) (pa_cons (pv 6) pa_nil))) (pa_cons (pe_calC c_of (hr.mono (by decide)) (pe_glob (v := .ref C) rfl hForm rfl) (pa_cons (pv 7) (pa_cons (pv 8) pa_nil))) pa_nil)) (by rfl))
      (pss_cons (ps_if (PW.pt (pw_or (pt_cmpR op_ne (pe_cmpR (OpX.op_eqC c_eq (hr.mono (by decide))) (pv 9) (pv 10) (nomark _)) (pv 4) (nomark _)) (pw_or (pt_cmpR op_ne (pe_cmpR (OpX.op_eqC c_eq (hr.mono (by decide))) (pv 10) (pv 9) (nomark _)) (pv 4) (nomark _)) (pw_or (pt_cmpR op_eq (pe_cmpR (OpX.op_neC c_eq N (hr.mono (by decide))) (pv 9) (pv 10) (nomark _)) (pv 4) (nomark _)) (pw_or1 (pt_not (pt_cmpR (OpX.op_eqC c_eq (hr.mono (by decide))) (pv 9) (pv 9) (nomark _)))))))) (pss_one (ps_ret pe_bl)) pss_nil)
      (pss_cons (ps_if (PW.pt (pw_or (pt_cmpR (OpX.op_eqC c_eq (hr.mono (by decide))) (pv 9) (pv 5) (nomark _)) (pw_or (pt_cmpR (OpX.op_eqRev c_eq sb2 (hr.mono (by decide))) (pv 5) (pv 9) (nomark _)) (pw_or (pt_cmpR (OpX.op_eqC c_eq (hr.mono (by decide))) (pv 9) (pe_callTy (OpX.call_strC c_str (hr.mono (by decide))) (by rfl) T.n_str (by decide +kernel) (pa_cons (pv 9) pa_nil)) (nomark _)) (pw_or1 (pt_cmpR (OpX.op_eqC c_eq (hr.mono (by decide))) (pv 9) (pe_calM0 c_fwritten (hr.mono (by decide)) (pv 9)) (nomark _))))))) (pss_one (ps_ret pe_bl)) pss_nil)
      (pss_one (ps_if (PW.pt (pw_or (pt_cmpR (OpX.op_eqC c_eq (hr.mono (by decide))) (pe_op (op_calO c_add (hr.mono (by decide))) (pv 9) pe_int) (pv 9) (nomark _)) (pw_or1 (pt_cmpR op_ne (pe_cmpR (OpX.op_eqC c_eq (hr.mono (by decide))) (pe_op (op_calO c_sub (hr.mono (by decide))) (pv 9) (pv 10)) (KwX.pe_mk0 (E := E0) M c_init (hr.mono (by decide)) rfl hForm) (nomark _)) (pv 4) (nomark _))))) (pss_one (ps_ret pe_bl)) pss_nil))))))))))))))
      (pss_one (ps_ret pe_bl))), ?_⟩
    walk_at "rd"
    refine ⟨a, _, rfl, .inl hS, ?_⟩
    rw [List.length_map]
    walk_at "rd"
    refine ⟨?_, ?_, ?_⟩
    · have hm : -(2 ^ 62) ≤ (if (if (ns.length : Int) < 12 then (ns.length : Int) else 12) > 1 then (if (ns.length : Int) < 12 then (ns.length : Int) else 12) else 1) := by
        split <;> split <;> omega
      exact hm
    · have hm : (if (if (ns.length : Int) < 12 then (ns.length : Int) else 12) > 1 then (if (ns.length : Int) < 12 then (ns.length : Int) else 12) else 1) < 2 ^ 62 := by
        split <;> split <;> omega
      exact hm
    have hm : (if (if (ns.length : Int) < 12 then (ns.length : Int) else 12) > 1 then (if (ns.length : Int) < 12 then (ns.length : Int) else 12) else 1).toNat ≤ 12 := by
      split <;> split <;> omega
    refine for_range (lo := 0) (fun i σ H' => ∃ o1 o2 o3 o4 o5 o6 o7 o8 o9 o10 : Option V, σ = [some (.ref a), o1, o2, o3, o4, o5, o6, o7, o8, o9, o10] ∧ Same H H') ⟨none, none, none, none, none, none, none, none, none, none, rfl, fun _ _ e => e⟩ ?_ ?_
    · rintro i σ H' hi ⟨o1, o2, o3, o4, o5, o6, o7, o8, o9, o10, rfl, S⟩
      have hi12 : i < 12 := Nat.lt_of_lt_of_le hi hm
      walk_at "rd"
      refine ⟨a, ns, i, by rw [Int.zero_add], S.seq hS, hl, by omega, fun b H1 hb hB1 S1 => ?_⟩
      have hb0 : H b = none := none_back S hb
      have SH := same_trans S S1
      clear S S1 hb
      have newb : ∀ {H' : Hp} {n : Nat} {x : Addr}, BagAt H' b n → H' x = none → x ≠ b := fun hB hx z => by
        obtain ⟨ys, e⟩ := hB.lst
        rw [← z, hx] at e
        cases e
      walk_at "rd"
      refine ⟨b, 0, rfl, hB1, by omega, fun c H2 hn1 B2 S2 => ?_⟩
      have SH := same_stay SH hb0 S2
      clear S2 hB1
      walk_at "rd"
      refine ⟨b, _, 6, rfl, B2, by omega, by omega, by omega, fun l1 ps1 H3 nb1 hl1 P1 O1 L1 B3 S3 => ?_⟩
      have SH := same_stay SH hb0 S3
      clear S3 B2
      walk_at "rd"
      refine ⟨b, l1, _, ps1, rfl, B3, by omega, P1, O1, nb1, by omega, fun l2 ps2 H4 hl2 l2b P2 sym2 big2 len2 co2 B4 S4 => ?_⟩
      have l12 : l1 ≠ l2 := fun z => by
        obtain ⟨xs, e, _⟩ := P1
        rw [z, hl2] at e
        cases e
      have hl20 : H l2 = none := none_back SH hl2
      have P1 := P1.stay S4 B3.lst nb1
      have SH := same_stay SH hb0 S4
      clear S4 B3 hl2
      walk_at "rd"
      refine ⟨b, _, 4, rfl, B4, by omega, by decide, by decide, fun wy H5 w0 w1 B5 S5 => ?_⟩
      have P1 := P1.stay S5 B4.lst nb1
      have P2 := P2.stay S5 B4.lst l2b
      have SH := same_stay SH hb0 S5
      clear S5 B4
      dsimp only
      refine seq_cutS (fun σ' H' => ∃ (ps : Ps), σ' = [some (.ref a), some (.int (0 + (i : Int))), some (.ref b), some (.int wy), o4, some (.int c), some (.ref l1), some (.int c), some (.ref l2), o9, o10] ∧ PairsAt H' l1 ps1 ∧ PairsAt H' l2 ps ∧ (∀ q ∈ ps, isSym q.1 = true) ∧ (∀ q ∈ ps, q.2.natAbs ≤ 2 * 10 ^ 25) ∧ ps.length ≤ 11 ∧ BagAt H' b 5000 ∧ Same H H') (fun σ' H6 h6 => ?_) (fun fin => ?_)
      · obtain ⟨ps, rfl, P1, P2, sym2, big2, len2, B6, SH⟩ := h6
        refine seq_cutS (fun σ' H' => ∃ (c2 : Int), σ' = [some (.ref a), some (.int (0 + (i : Int))), some (.ref b), some (.int wy), o4, some (.int c), some (.ref l1), some (.int c2), some (.ref l2), o9, o10] ∧ c2.natAbs ≤ 2 * 10 ^ 25 ∧ PairsAt H' l1 ps1 ∧ PairsAt H' l2 ps ∧ BagAt H' b 5100 ∧ Same H H') (fun σ' H7 h7 => ?_) (fun fin => ?_)
        · obtain ⟨c2, rfl, hc2, P1, P2, B7, SH⟩ := h7
          refine seq_cutS (fun σ' H' => ∃ (l3 : Addr) (ps3 : Ps), σ' = [some (.ref a), some (.int (0 + (i : Int))), some (.ref b), some (.int wy), o4, some (.int c), some (.ref l1), some (.int c2), some (.ref l3), o9, o10] ∧ PairsAt H' l1 ps1 ∧ PairsAt H' l3 ps3 ∧ (∀ q ∈ ps3, isSym q.1 = true) ∧ (∀ q ∈ ps3, q.2.natAbs ≤ 2 * 10 ^ 25) ∧ ps3.length ≤ 11 ∧ Same H H') (fun σ' H8 h8 => ?_) (fun fin => ?_)
          · obtain ⟨l3, ps3, rfl, P1, P3, sym3, big3, len3, SH⟩ := h8
            refine seq_cutS (fun σ' H' => ∃ (dv : Bool), σ' = [some (.ref a), some (.int (0 + (i : Int))), some (.ref b), some (.int wy), some (.bl dv), some (.int c), some (.ref l1), some (.int c2), some (.ref l3), o9, o10] ∧ (dv = true ↔ c = c2 ∧ ∀ s, co ps1 s = co ps3 s) ∧ PairsAt H' l1 ps1 ∧ PairsAt H' l3 ps3 ∧ Same H H') (fun σ' H9 h9 => ?_) (fun fin => ?_)
            · obtain ⟨dv, rfl, hdv, P1, P3, SH⟩ := h9
              walk_at "rd"
              refine ⟨c, l1, ps1, rfl, P1, O1.sym, by omega, fun f1 m1 H10 hf1 FA g1 coA S10 => ?_⟩
              walk_at "rd"
              refine ⟨c2, l3, ps3, rfl, P3.same S10, sym3, by omega, fun f2 m2 H11 hf2 FB g2 coB S11 => ?_⟩
              have FA := FA.same S11
              have SH := same_trans SH (same_trans S10 S11)
              have hdv : dv = true ↔ c = c2 ∧ ∀ s, co m1 s = co m2 s := hdv.trans (by
                constructor
                · rintro ⟨e, z⟩
                  exact ⟨e, fun s => by rw [coA, coB, z]⟩
                · rintro ⟨e, z⟩
                  exact ⟨e, fun s => by rw [← coA, ← coB, z]⟩)
              have bA : ∀ s, (co m1 s).natAbs < 10 ^ 60 := fun s => by
                rw [coA]
                have h1 := co_bound O1.big s
                have h2 : ps1.length * 10 ^ 25 ≤ 6 * 10 ^ 25 := Nat.mul_le_mul_right _ (by omega)
                omega
              clear S10 S11 P1 P3 hf1 hf2
              obtain ⟨⟨dx1, d1, hF1, _⟩, _⟩ := id FA
              obtain ⟨⟨dx2, d2, hF2, _⟩, _⟩ := id FB
              have bool : ∀ {r : Bool}, (r = true ↔ c = c2 ∧ ∀ s, co m1 s = co m2 s) → r = dv := fun {r} h => Bool.eq_iff_iff.mpr (h.trans hdv.symm)
              have bool' : ∀ {r : Bool}, (r = true ↔ c2 = c ∧ ∀ s, co m2 s = co m1 s) → r = dv := fun {r} h => bool (h.trans ⟨fun z => ⟨z.1.symm, fun s => (z.2 s).symm⟩, fun z => ⟨z.1.symm, fun s => (z.2 s).symm⟩⟩)
              walk_at "rd"
              refine ⟨f1, dx1, _, rfl, hF1, .inr (.inr (.inl ⟨f2, dx2, _, rfl, hF2⟩)), f1, c, m1, .ref f2, rfl, FA, .inr ⟨f2, c2, m2, rfl, FB, fun r hr => ?_⟩⟩
              rw [bool hr]
              walk_at "rd"
              refine ite2 (fun h => by simp at h) (fun _ => ?_)
              walk_at "rd"
              refine ⟨f2, dx2, _, rfl, hF2, .inr (.inr (.inl ⟨f1, dx1, _, rfl, hF1⟩)), f2, c2, m2, .ref f1, rfl, FB, .inr ⟨f1, c, m1, rfl, FA, fun r hr => ?_⟩⟩
              rw [bool' hr]
              walk_at "rd"
              refine ite2 (fun h => by simp at h) (fun _ => ?_)
              walk_at "rd"
              refine ⟨f1, dx1, _, rfl, hF1, .inr (.inr (.inl ⟨f2, dx2, _, rfl, hF2⟩)), f1, c, m1, .ref f2, rfl, FA, .inr ⟨f2, c2, m2, rfl, FB, fun r hr => ⟨r, rfl, ?_⟩⟩⟩
              rw [bool hr]
              walk_at "rd"
              refine ite2 (fun h => by cases dv <;> simp at h) (fun _ => ?_)
              walk_at "rd"
              refine ⟨f1, dx1, _, rfl, hF1, .inr (.inr (.inl ⟨f1, dx1, _, rfl, hF1⟩)), f1, c, m1, .ref f1, rfl, FA, .inr ⟨f1, c, m1, rfl, FA, fun r hr => ?_⟩⟩
              have hr : r = true := hr.mpr ⟨rfl, fun _ => rfl⟩
              rw [hr]
              walk_at "rd"
              clear hF2
              refine ⟨f1, dx1, _, rfl, hF1, .inl ⟨c, rfl⟩, f1, c, m1, .int c, rfl, FA, .inl ⟨.inl ⟨c, rfl⟩, ?_⟩⟩
              walk_at "rd"
              refine ⟨c, f1, dx1, _, rfl, rfl, hF1, f1, c, m1, .int c, rfl, FA, .inl ⟨.inl ⟨c, rfl⟩, ?_⟩⟩
              walk_at "rd"
              refine ⟨f1, dx1, _, rfl, hF1, f1, c, m1, rfl, FA, by omega, by omega, bA, fun L1 G1 hC1 hS1 hl1 T1 => ⟨_, rfl, ?_⟩⟩
              clear hC1 hS1 hl1
              refine ⟨f1, dx1, _, rfl, T1 _ _ hF1, .inr (.inl ⟨_, rfl⟩), f1, c, m1, .str _, rfl, FA.same T1, .inl ⟨.inr (.inl ⟨_, rfl⟩), ?_⟩⟩
              have FA := FA.same T1
              have FB := FB.same T1
              have hF1 := T1 _ _ hF1
              have SH := same_trans SH T1
              walk_at "rd"
              refine ⟨f1, dx1, _, rfl, hF1, rfl, ?_⟩
              refine ⟨f1, c, m1, rfl, FA, by omega, fun xw L Hw W1 cw sw Tw => ?_⟩
              obtain ⟨aw, bw, xsw, rfl, haw, _⟩ := W1
              have FA := FA.same Tw
              have FB := FB.same Tw
              have hF1 := Tw _ _ hF1
              have SH := same_trans SH Tw
              clear T1 Tw cw sw
              refine ⟨f1, dx1, _, rfl, hF1, .inr (.inr (.inr ⟨aw, _, rfl, haw⟩)), f1, c, m1, .ref aw, rfl, FA, .inl ⟨.inr (.inr ⟨aw, _, rfl, haw⟩), ?_⟩⟩
              walk_at "rd"
              refine ⟨f1, dx1, _, rfl, hF1, .inl ⟨_, rfl⟩, f1, c, m1, .int 1, 1, fun _ => 0, 0, rfl, FA, .inl ⟨rfl, fun _ => rfl, rfl⟩, by omega, by omega, fun p3 m3 H12 hp3 F3 co3 l3' S12 => ?_⟩
              obtain ⟨⟨dx3, d3, e3, _⟩, _⟩ := id F3
              have FA := FA.same S12
              have FB := FB.same S12
              have hF1 := S12 _ _ hF1
              have SH := same_trans SH S12
              walk_at "rd"
              refine ⟨p3, dx3, _, rfl, e3, .inr (.inr (.inl ⟨f1, dx1, _, rfl, hF1⟩)), p3, c + 1, m3, .ref f1, rfl, F3, .inr ⟨f1, c, m1, rfl, FA, fun r hr => ?_⟩⟩
              have hr0 : r = false := by
                cases r with
                | false => rfl
                | true =>
                  have := (hr.mp rfl).1
                  omega
              rw [hr0]
              clear F3 co3 e3 hp3 S12
              walk_at "rd"
              obtain ⟨⟨dx2, d2, hF2, _⟩, _⟩ := id FB
              refine ⟨f1, dx1, _, rfl, hF1, .inr ⟨f2, dx2, _, rfl, hF2⟩, f1, c, m1, .ref f2, c2, co m2, m2.length, rfl, FA, .inr ⟨f2, m2, rfl, FB, fun _ => rfl, rfl⟩, by omega, by omega, fun p4 m4 H13 hp4 F4 co4 l4 S13 => ?_⟩
              have co4 : ∀ s, co m4 s = co m1 s - co m2 s := co4
              walk_at "rd"
              refine ⟨by decide, mk_plain (c := 0) rfl fun p5 H14 hp5 F5 S14 => ?_⟩
              have F4 := F4.same S14
              obtain ⟨⟨dx4, d4, e4, _⟩, _⟩ := id F4
              obtain ⟨⟨dx5, d5, e5, _⟩, _⟩ := id F5
              refine ⟨p4, dx4, _, rfl, e4, .inr (.inr (.inl ⟨p5, dx5, _, rfl, e5⟩)), p4, c - c2, m4, .ref p5, rfl, F4, .inr ⟨p5, 0, [], rfl, F5, fun r hr => ?_⟩⟩
              have hr1 : r = dv := bool (hr.trans (by
                constructor
                · rintro ⟨z1, z2⟩
                  refine ⟨by omega, fun s => ?_⟩
                  have z3 : co m4 s = 0 := z2 s
                  rw [co4] at z3
                  omega
                · rintro ⟨z1, z2⟩
                  refine ⟨by omega, fun s => ?_⟩
                  show co m4 s = 0
                  rw [co4, z2]
                  omega))
              rw [hr1]
              walk_at "rd"
              refine ite2 (fun h => by simp at h) (fun _ => ?_)
              exact ⟨_, _, _, _, _, _, _, _, _, _, rfl, same_trans SH (same_trans S13 S14)⟩
            · walk_at "rd"
              refine ite2 (fun h => ?_) (fun h => ?_)
              · have hc : c = c2 := by
                  have h' := of_decide_eq_true h
                  injection h'
                walk_at "rd"
                refine ⟨l1, ps1, rfl, P1, O1.sym, by omega, fun d1 M1 J1 hd1 DA1 e1 coM1 U1 => ?_⟩
                walk_at "rd"
                refine ⟨l3, ps3, rfl, P3.same U1, sym3, by omega, fun d2 M2 J2 hd2 DA2 e2 coM2 U2 => ?_⟩
                refine ⟨d1, d2, M1, M2, rfl, DA1.same U2, DA2, by omega, by omega, fun r J3 hr U3 => ?_⟩
                have UU := same_trans (same_trans U1 U2) U3
                refine fin _ _ ⟨r, rfl, ?_, P1.same UU, P3.same UU, same_trans SH UU⟩
                rw [hr]
                constructor
                · intro z
                  exact ⟨hc, fun s => by rw [← coM1, ← coM2, z]⟩
                · rintro ⟨_, z⟩ s
                  rw [coM1, coM2, z]
              · have hc : c ≠ c2 := fun z => h (by rw [z]; simp)
                exact fin _ _ ⟨false, rfl, ⟨fun z => (by cases z), fun z => absurd z.1 hc⟩, P1, P3, SH⟩
          · walk_at "rd"
            refine ite2 (fun h => ?_) (fun h => ?_)
            · walk_at "rd"
              refine ⟨b, _, 6, rfl, B7, by omega, by omega, by omega, fun l3 ps3 H8 nb3 hl3 P3 O3 L3 B8 S8 => ?_⟩
              exact fin _ _ ⟨l3, ps3, rfl, P1.stay S8 B7.lst nb1, P3, O3.sym, fun q hq => Nat.le_trans (O3.big q hq) (by decide), by omega, same_stay SH hb0 S8⟩
            · exact fin _ _ ⟨l2, ps, rfl, P1, P2, sym2, big2, len2, SH⟩
        · walk_at "rd"
          refine ite2 (fun h => ?_) (fun h => ?_)
          · walk_at "rd"
            refine ⟨b, _, rfl, B6, by omega, fun v H7 hv B7 S7 => ?_⟩
            refine ⟨_, _, rfl, rfl, ?_⟩
            refine fin _ _ ⟨c + v, rfl, by omega, P1.stay S7 B6.lst nb1, P2.stay S7 B6.lst l2b, B7.mono (by omega), same_stay SH hb0 S7⟩
          · exact fin _ _ ⟨c, rfl, by omega, P1, P2, B6.mono (by omega), SH⟩
      · walk_at "rd"
        refine ite2 (fun h => ?_) (fun h => ?_)
        · walk_at "rd"
          obtain ⟨xs, hx, hp⟩ := id P2
          refine ⟨.inl ⟨rfl, _, SqL.of hx⟩, ?_⟩
          walk_at "rd"
          refine ⟨b, _, rfl, B5, by omega, fun x H6 hxs B6 S6 => ?_⟩
          walk_at "rd"
          refine ⟨b, _, rfl, B6, by omega, fun v H7 hv B7 S7 => ?_⟩
          have S67 := S6.trans S7
          walk_at "rd"
          refine ⟨by show 2 ≤ sizeLine; decide, fun t ht => ?_⟩
          have hxl := paired_len hp
          have hx7 := S67 _ _ l2b hx
          obtain ⟨q1, q2⟩ := push_lc (x := x) (v := v) hx7 (paired_map (fun _ _ q => q.stay S67 B5.lst) hp) ht
          refine ⟨l2, xs, .ref t, rfl, rfl, q1, Nat.lt_of_lt_of_le (m := 64) (by omega) (by decide), ?_⟩
          have St := same_new (o := .tup [.str x, .int v]) (fun _ _ e => e) ht
          have SH7 := same_stay SH hb0 S67
          refine fin _ _ ⟨ps2 ++ [(x, v)], rfl, ((P1.stay S67 B5.lst nb1).same St).over q1 l12, ⟨_, upd_same, q2⟩, fun q hq => ?_, fun q hq => ?_, by rw [List.length_append]; show _ + 1 ≤ _; omega, ((B7.same St).upd l2b.symm).mono (by omega), same_over (same_trans SH7 St) hl20⟩
          · rcases List.mem_append.mp hq with hq | hq
            · exact sym2 q hq
            · rw [List.mem_singleton.mp hq]
              exact hxs
          · rcases List.mem_append.mp hq with hq | hq
            · exact big2 q hq
            · rw [List.mem_singleton.mp hq]
              show v.natAbs ≤ _
              omega
        · exact fin _ _ ⟨ps2, rfl, P1, P2, sym2, big2, by omega, B5.mono (by omega), SH⟩
    · rintro σ H' ⟨o1, o2, o3, o4, o5, o6, o7, o8, o9, o10, rfl, S⟩
      walk_at "rd"
      exact k H'
end
end Ow

set_option Elab.async false
set_option linter.all false
set_option maxRecDepth 100000
set_option maxHeartbeats 8000000
namespace Ow
open PySem PySem.Spec PyProof.Rows L2
theorem all_mk {l : PySem.W.OpenLaw} {w : World} {K : PySem.W.Frag} {h : Heap} {mg : Str → Option Value} {fa C fOf fInit pOf T0 f0 f1 f2 f3 f4 f5 f6 f7 f8 f9 f10 f11 f12 f13 f14 f15 f16 f17 f18 f19 f20 f21 f22 f23 : Addr} (X : K.In h) (G : h.Ns mainGlobals mg) (hfa : mg "law" = some (.ref fa))
    {od0 an0 : Option Addr} {sl0 : Array (Option Value)} {oc0 kV0 dc0 pm0 cd0 ct0 : Value} {od1 an1 : Option Addr} {sl1 : Array (Option Value)} {oc1 kV1 dc1 pm1 cd1 ct1 : Value} {od2 an2 : Option Addr} {sl2 : Array (Option Value)} {oc2 kV2 dc2 pm2 cd2 ct2 : Value} {od3 an3 : Option Addr} {sl3 : Array (Option Value)} {oc3 kV3 dc3 pm3 cd3 ct3 : Value} {od4 an4 : Option Addr} {sl4 : Array (Option Value)} {oc4 kV4 dc4 pm4 cd4 ct4 : Value} {od5 an5 : Option Addr} {sl5 : Array (Option Value)} {oc5 kV5 dc5 pm5 cd5 ct5 : Value} {od6 an6 : Option Addr} {sl6 : Array (Option Value)} {oc6 kV6 dc6 pm6 cd6 ct6 : Value} {od7 an7 : Option Addr} {sl7 : Array (Option Value)} {oc7 kV7 dc7 pm7 cd7 ct7 : Value} {od8 an8 : Option Addr} {sl8 : Array (Option Value)} {oc8 kV8 dc8 pm8 cd8 ct8 : Value} {od9 an9 : Option Addr} {sl9 : Array (Option Value)} {oc9 kV9 dc9 pm9 cd9 ct9 : Value} {od10 an10 : Option Addr} {sl10 : Array (Option Value)} {oc10 kV10 dc10 pm10 cd10 ct10 : Value} {od11 an11 : Option Addr} {sl11 : Array (Option Value)} {oc11 kV11 dc11 pm11 cd11 ct11 : Value} {od12 an12 : Option Addr} {sl12 : Array (Option Value)} {oc12 kV12 dc12 pm12 cd12 ct12 : Value} {od13 an13 : Option Addr} {sl13 : Array (Option Value)} {oc13 kV13 dc13 pm13 cd13 ct13 : Value} {od14 an14 : Option Addr} {sl14 : Array (Option Value)} {oc14 kV14 dc14 pm14 cd14 ct14 : Value} {od15 an15 : Option Addr} {sl15 : Array (Option Value)} {oc15 kV15 dc15 pm15 cd15 ct15 : Value} {od16 an16 : Option Addr} {sl16 : Array (Option Value)} {oc16 kV16 dc16 pm16 cd16 ct16 : Value} {od17 an17 : Option Addr} {sl17 : Array (Option Value)} {oc17 kV17 dc17 pm17 cd17 ct17 : Value} {od18 an18 : Option Addr} {sl18 : Array (Option Value)} {oc18 kV18 dc18 pm18 cd18 ct18 : Value} {od19 an19 : Option Addr} {sl19 : Array (Option Value)} {oc19 kV19 dc19 pm19 cd19 ct19 : Value} {od20 an20 : Option Addr} {sl20 : Array (Option Value)} {oc20 kV20 dc20 pm20 cd20 ct20 : Value} {od21 an21 : Option Addr} {sl21 : Array (Option Value)} {oc21 kV21 dc21 pm21 cd21 ct21 : Value} {od22 an22 : Option Addr} {sl22 : Array (Option Value)} {oc22 kV22 dc22 pm22 cd22 ct22 : Value} {od23 an23 : Option Addr} {sl23 : Array (Option Value)} {oc23 kV23 dc23 pm23 cd23 ct23 : Value} {od90 an90 : Option Addr} {sl90 : Array (Option Value)} {oc90 kV90 dc90 pm90 cd90 ct90 : Value} {od91 an91 : Option Addr} {sl91 : Array (Option Value)} {oc91 kV91 dc91 pm91 cd91 ct91 : Value} {gAdd : Addr} {foAdd roAdd : Option Value} {gSub : Addr} {foSub roSub : Option Value} {gMul : Addr} {foMul roMul : Option Value} {t5 : Tok} {ocT : Value} {odT : Option Addr} {rest : List Value} {nT : Nat} {slT : Array (Option Value)} {tT t1 t2 t3 t4 : Tok}
    (aC : PySem.W.nsIn K mainGlobals "Form" = some (some (.ref C)))
    (a0 : PySem.W.nsIn K mainGlobals "_law_bag" = some (some (.ref f0)))
    (l0 : K.lookup f0 = some ⟨oc0, od0, .func (PySem.W.fnOf "_law_bag" "_law_bag" (defArgs s_law_bag) (defBody s_law_bag) (defScope s_law_bag) .none kV0 dc0 pm0 an0 cd0 ct0), sl0⟩)
    (c0 : PySem.W.codeIn K cd0 "_law_bag" = true)
    (k0 : PySem.W.keepIn K (.ref f0) = true)
    (a1 : PySem.W.nsIn K mainGlobals "_law_take" = some (some (.ref f1)))
    (l1 : K.lookup f1 = some ⟨oc1, od1, .func (PySem.W.fnOf "_law_take" "_law_take" (defArgs s_law_take) (defBody s_law_take) (defScope s_law_take) .none kV1 dc1 pm1 an1 cd1 ct1), sl1⟩)
    (c1 : PySem.W.codeIn K cd1 "_law_take" = true)
    (k1 : PySem.W.keepIn K (.ref f1) = true)
    (a2 : PySem.W.nsIn K mainGlobals "_law_number" = some (some (.ref f2)))
    (l2 : K.lookup f2 = some ⟨oc2, od2, .func (PySem.W.fnOf "_law_number" "_law_number" (defArgs s_law_number) (defBody s_law_number) (defScope s_law_number) .none kV2 dc2 pm2 an2 cd2 ct2), sl2⟩)
    (c2 : PySem.W.codeIn K cd2 "_law_number" = true)
    (k2 : PySem.W.keepIn K (.ref f2) = true)
    (a3 : PySem.W.nsIn K mainGlobals "_law_symbol" = some (some (.ref f3)))
    (l3 : K.lookup f3 = some ⟨oc3, od3, .func (PySem.W.fnOf "_law_symbol" "_law_symbol" (defArgs s_law_symbol) (defBody s_law_symbol) (defScope s_law_symbol) .none kV3 dc3 pm3 an3 cd3 ct3), sl3⟩)
    (c3 : PySem.W.codeIn K cd3 "_law_symbol" = true)
    (k3 : PySem.W.keepIn K (.ref f3) = true)
    (a4 : PySem.W.nsIn K mainGlobals "_law_pairs" = some (some (.ref f4)))
    (l4 : K.lookup f4 = some ⟨oc4, od4, .func (PySem.W.fnOf "_law_pairs" "_law_pairs" (defArgs s_law_pairs) (defBody s_law_pairs) (defScope s_law_pairs) .none kV4 dc4 pm4 an4 cd4 ct4), sl4⟩)
    (c4 : PySem.W.codeIn K cd4 "_law_pairs" = true)
    (k4 : PySem.W.keepIn K (.ref f4) = true)
    (a5 : PySem.W.nsIn K mainGlobals "_law_sums" = some (some (.ref f5)))
    (l5 : K.lookup f5 = some ⟨oc5, od5, .func (PySem.W.fnOf "_law_sums" "_law_sums" (defArgs s_law_sums) (defBody s_law_sums) (defScope s_law_sums) .none kV5 dc5 pm5 an5 cd5 ct5), sl5⟩)
    (c5 : PySem.W.codeIn K cd5 "_law_sums" = true)
    (k5 : PySem.W.keepIn K (.ref f5) = true)
    (a6 : PySem.W.nsIn K mainGlobals "_law_turned" = some (some (.ref f6)))
    (l6 : K.lookup f6 = some ⟨oc6, od6, .func (PySem.W.fnOf "_law_turned" "_law_turned" (defArgs s_law_turned) (defBody s_law_turned) (defScope s_law_turned) .none kV6 dc6 pm6 an6 cd6 ct6), sl6⟩)
    (c6 : PySem.W.codeIn K cd6 "_law_turned" = true)
    (k6 : PySem.W.keepIn K (.ref f6) = true)
    (a7 : PySem.W.nsIn K mainGlobals "_law_same" = some (some (.ref f7)))
    (l7 : K.lookup f7 = some ⟨oc7, od7, .func (PySem.W.fnOf "_law_same" "_law_same" (defArgs s_law_same) (defBody s_law_same) (defScope s_law_same) .none kV7 dc7 pm7 an7 cd7 ct7), sl7⟩)
    (c7 : PySem.W.codeIn K cd7 "_law_same" = true)
    (k7 : PySem.W.keepIn K (.ref f7) = true)
    (a8 : PySem.W.nsIn K mainGlobals "law" = some (some (.ref f8)))
    (l8 : K.lookup f8 = some ⟨oc8, od8, .func (PySem.W.fnOf "law" "law" (defArgs s_law) (defBody s_law) (defScope s_law) .none kV8 dc8 pm8 an8 cd8 ct8), sl8⟩)
    (c8 : PySem.W.codeIn K cd8 "law" = true)
    (k8 : PySem.W.keepIn K (.ref f8) = true)
    (a9 : PySem.W.nsIn K mainGlobals "is_list_name" = some (some (.ref f9)))
    (l9 : K.lookup f9 = some ⟨oc9, od9, .func (PySem.W.fnOf "is_list_name" "is_list_name" (defArgs s_is_list_name) (defBody s_is_list_name) (defScope s_is_list_name) .none kV9 dc9 pm9 an9 cd9 ct9), sl9⟩)
    (c9 : PySem.W.codeIn K cd9 "is_list_name" = true)
    (k9 : PySem.W.keepIn K (.ref f9) = true)
    (a10 : PySem.W.nsIn K mainGlobals "is_round_symbol" = some (some (.ref f10)))
    (l10 : K.lookup f10 = some ⟨oc10, od10, .func (PySem.W.fnOf "is_round_symbol" "is_round_symbol" (defArgs s_is_round_symbol) (defBody s_is_round_symbol) (defScope s_is_round_symbol) .none kV10 dc10 pm10 an10 cd10 ct10), sl10⟩)
    (c10 : PySem.W.codeIn K cd10 "is_round_symbol" = true)
    (k10 : PySem.W.keepIn K (.ref f10) = true)
    (a11 : PySem.W.nsIn K mainGlobals "is_symbol" = some (some (.ref f11)))
    (l11 : K.lookup f11 = some ⟨oc11, od11, .func (PySem.W.fnOf "is_symbol" "is_symbol" (defArgs s_is_symbol) (defBody s_is_symbol) (defScope s_is_symbol) .none kV11 dc11 pm11 an11 cd11 ct11), sl11⟩)
    (c11 : PySem.W.codeIn K cd11 "is_symbol" = true)
    (k11 : PySem.W.keepIn K (.ref f11) = true)
    (a12 : PySem.W.nsIn K mainGlobals "_digits" = some (some (.ref f12)))
    (l12 : K.lookup f12 = some ⟨oc12, od12, .func (PySem.W.fnOf "_digits" "_digits" (defArgs s_digits) (defBody s_digits) (defScope s_digits) .none kV12 dc12 pm12 an12 cd12 ct12), sl12⟩)
    (c12 : PySem.W.codeIn K cd12 "_digits" = true)
    (k12 : PySem.W.keepIn K (.ref f12) = true)
    (a13 : PySem.W.nsIn K mainGlobals "_part" = some (some (.ref f13)))
    (l13 : K.lookup f13 = some ⟨oc13, od13, .func (PySem.W.fnOf "_part" "_part" (defArgs s_part) (defBody s_part) (defScope s_part) .none kV13 dc13 pm13 an13 cd13 ct13), sl13⟩)
    (c13 : PySem.W.codeIn K cd13 "_part" = true)
    (k13 : PySem.W.keepIn K (.ref f13) = true)
    (a14 : PySem.W.nsIn K mainGlobals "_joined" = some (some (.ref f14)))
    (l14 : K.lookup f14 = some ⟨oc14, od14, .func (PySem.W.fnOf "_joined" "_joined" (defArgs s_joined) (defBody s_joined) (defScope s_joined) .none kV14 dc14 pm14 an14 cd14 ct14), sl14⟩)
    (c14 : PySem.W.codeIn K cd14 "_joined" = true)
    (k14 : PySem.W.keepIn K (.ref f14) = true)
    (a15 : PySem.W.findIn K (.ref C) "symbols" = some (some (.ref f15)))
    (i15 : PySem.W.isFn K (.ref f15) = true)
    (l15 : K.lookup f15 = some ⟨oc15, od15, .func (PySem.W.fnOf "symbols" "Form.symbols" (defArgs s_Form_symbols) (defBody s_Form_symbols) (defScope s_Form_symbols) .none kV15 dc15 pm15 an15 cd15 ct15), sl15⟩)
    (c15 : PySem.W.codeIn K cd15 "Form.symbols" = true)
    (k15 : PySem.W.keepIn K (.ref f15) = true)
    (a16 : PySem.W.findIn K (.ref C) "_pairs" = some (some (.ref f16)))
    (i16 : PySem.W.isFn K (.ref f16) = true)
    (l16 : K.lookup f16 = some ⟨oc16, od16, .func (PySem.W.fnOf "_pairs" "Form._pairs" (defArgs s_FormDpairs) (defBody s_FormDpairs) (defScope s_FormDpairs) .none kV16 dc16 pm16 an16 cd16 ct16), sl16⟩)
    (c16 : PySem.W.codeIn K cd16 "Form._pairs" = true)
    (k16 : PySem.W.keepIn K (.ref f16) = true)
    (a17 : PySem.W.findIn K (.ref C) "written" = some (some (.ref f17)))
    (i17 : PySem.W.isFn K (.ref f17) = true)
    (l17 : K.lookup f17 = some ⟨oc17, od17, .func (PySem.W.fnOf "written" "Form.written" (defArgs s_Form_written) (defBody s_Form_written) (defScope s_Form_written) .none kV17 dc17 pm17 an17 cd17 ct17), sl17⟩)
    (c17 : PySem.W.codeIn K cd17 "Form.written" = true)
    (k17 : PySem.W.keepIn K (.ref f17) = true)
    (a18 : PySem.W.findIn K (.ref C) "__add__" = some (some (.ref f18)))
    (i18 : PySem.W.isFn K (.ref f18) = true)
    (l18 : K.lookup f18 = some ⟨oc18, od18, .func (PySem.W.fnOf "__add__" "Form.__add__" (defArgs s_FormD_addD) (defBody s_FormD_addD) (defScope s_FormD_addD) .none kV18 dc18 pm18 an18 cd18 ct18), sl18⟩)
    (c18 : PySem.W.codeIn K cd18 "Form.__add__" = true)
    (k18 : PySem.W.keepIn K (.ref f18) = true)
    (a19 : PySem.W.findIn K (.ref C) "__sub__" = some (some (.ref f19)))
    (i19 : PySem.W.isFn K (.ref f19) = true)
    (l19 : K.lookup f19 = some ⟨oc19, od19, .func (PySem.W.fnOf "__sub__" "Form.__sub__" (defArgs s_FormD_subD) (defBody s_FormD_subD) (defScope s_FormD_subD) .none kV19 dc19 pm19 an19 cd19 ct19), sl19⟩)
    (c19 : PySem.W.codeIn K cd19 "Form.__sub__" = true)
    (k19 : PySem.W.keepIn K (.ref f19) = true)
    (a20 : PySem.W.findIn K (.ref C) "__neg__" = some (some (.ref f20)))
    (i20 : PySem.W.isFn K (.ref f20) = true)
    (l20 : K.lookup f20 = some ⟨oc20, od20, .func (PySem.W.fnOf "__neg__" "Form.__neg__" (defArgs s_FormD_negD) (defBody s_FormD_negD) (defScope s_FormD_negD) .none kV20 dc20 pm20 an20 cd20 ct20), sl20⟩)
    (c20 : PySem.W.codeIn K cd20 "Form.__neg__" = true)
    (k20 : PySem.W.keepIn K (.ref f20) = true)
    (a21 : PySem.W.findIn K (.ref C) "__mul__" = some (some (.ref f21)))
    (i21 : PySem.W.isFn K (.ref f21) = true)
    (l21 : K.lookup f21 = some ⟨oc21, od21, .func (PySem.W.fnOf "__mul__" "Form.__mul__" (defArgs s_FormD_mulD) (defBody s_FormD_mulD) (defScope s_FormD_mulD) .none kV21 dc21 pm21 an21 cd21 ct21), sl21⟩)
    (c21 : PySem.W.codeIn K cd21 "Form.__mul__" = true)
    (k21 : PySem.W.keepIn K (.ref f21) = true)
    (a22 : PySem.W.findIn K (.ref C) "__str__" = some (some (.ref f22)))
    (i22 : PySem.W.isFn K (.ref f22) = true)
    (g22 : PySem.W.fnIn K f22 = true)
    (l22 : K.lookup f22 = some ⟨oc22, od22, .func (PySem.W.fnOf "__str__" "Form.__str__" (defArgs s_FormD_strD) (defBody s_FormD_strD) (defScope s_FormD_strD) .none kV22 dc22 pm22 an22 cd22 ct22), sl22⟩)
    (c22 : PySem.W.codeIn K cd22 "Form.__str__" = true)
    (k22 : PySem.W.keepIn K (.ref f22) = true)
    (a23 : PySem.W.findIn K (.ref C) "__eq__" = some (some (.ref f23)))
    (i23 : PySem.W.isFn K (.ref f23) = true)
    (l23 : K.lookup f23 = some ⟨oc23, od23, .func (PySem.W.fnOf "__eq__" "Form.__eq__" (defArgs s_FormD_eqD) (defBody s_FormD_eqD) (defScope s_FormD_eqD) .none kV23 dc23 pm23 an23 cd23 ct23), sl23⟩)
    (c23 : PySem.W.codeIn K cd23 "Form.__eq__" = true)
    (k23 : PySem.W.keepIn K (.ref f23) = true)
    (rd : PySem.W.readsIn K C (.type "type") = true)
    (ga : PySem.W.specialIn K (.ref C) "__getattribute__" = some (some (.builtin "type.__getattribute__")))
    (cm : PySem.W.findCls K (.ref C) (.type "type") "of" = some (.get (.builtin "classmethod.__get__") (.ref pOf) .none (.ref C)))
    (rc : PySem.W.recIn K pOf "classmethod" = some (.ref fOf :: rest))
    (fi : PySem.W.fnIn K fOf = true)
    (l90 : K.lookup fOf = some ⟨oc90, od90, .func (PySem.W.fnOf "of" "Form.of" (defArgs s_Form_of) (defBody s_Form_of) (defScope s_Form_of) .none kV90 dc90 pm90 an90 cd90 ct90), sl90⟩)
    (c90 : PySem.W.codeIn K cd90 "Form.of" = true)
    (k90 : PySem.W.keepIn K (.ref fOf) = true)
    (a91 : PySem.W.findIn K (.ref C) "__init__" = some (some (.ref fInit)))
    (i91 : PySem.W.isFn K (.ref fInit) = true)
    (l91 : K.lookup fInit = some ⟨oc91, od91, .func (PySem.W.fnOf "__init__" "Form.__init__" (defArgs s_FormD_initD) (defBody s_FormD_initD) (defScope s_FormD_initD) (.ref T0) kV91 dc91 pm91 an91 cd91 ct91), sl91⟩)
    (c91 : PySem.W.codeIn K cd91 "Form.__init__" = true)
    (k91 : PySem.W.keepIn K (.ref fInit) = true)
    (lT : K.lookup T0 = some ⟨ocT, odT, .seq #[Value.int 0 tT] nT, slT⟩)
    (pg : PySem.W.plainGet K C Str.empty = true)
    (hd : PySem.W.hasDictIn K C = true)
    (po : PySem.W.plainOver K C = true)
    (sa : PySem.W.findIn K (.ref C) "__setattr__" = some (some (.builtin "object.__setattr__")))
    (mk : PySem.W.makesIn K C = true)
    (kc : PySem.W.keepIn K (.ref C) = true)
    (n1 : PySem.W.findIn K (.ref C) "constant" = some none)
    (n2 : PySem.W.findIn K (.ref C) "_coefficients" = some none)
    (ha : PySem.W.findIn K (.ref C) "__class__" = some (some (.builtin "object.__class__")))
    (hn : PySem.W.specialIn K (.builtin "object.__class__") "__get__" = some (some (.builtin "getset_descriptor.__get__")))
    (htk : PySem.W.takesIn K (.builtin "object.__class__") = some true)
    (hm : PySem.W.mroIn K C (.type "object") = some true)
    (isC : PySem.W.isClsIn K C = true)
    (tyC : PySem.W.typeIn K (.ref C) = some (.type "type"))
    (sf : PySem.W.selfFirst K C = true)
    (sb1 : PySem.W.subIn K (.type "int") (.ref C) = some false)
    (sb2 : PySem.W.subIn K (.ref C) (.type "int") = some false)
    (iAAdd : PySem.W.findIn K (.type "int") "__add__" = some foAdd)
    (iBAdd : PySem.W.findIn K (.type "int") "__radd__" = some roAdd)
    (rAdd : PySem.W.findIn K (.ref C) "__radd__" = some (some (.ref gAdd)))
    (iASub : PySem.W.findIn K (.type "int") "__sub__" = some foSub)
    (iBSub : PySem.W.findIn K (.type "int") "__rsub__" = some roSub)
    (rSub : PySem.W.findIn K (.ref C) "__rsub__" = some (some (.ref gSub)))
    (iAMul : PySem.W.findIn K (.type "int") "__mul__" = some foMul)
    (iBMul : PySem.W.findIn K (.type "int") "__rmul__" = some roMul)
    (rMul : PySem.W.findIn K (.ref C) "__rmul__" = some (some (.ref gMul)))
    (zlen : PySem.W.nsIn K mainGlobals "len" = some none)
    (zabs : PySem.W.nsIn K mainGlobals "abs" = some none)
    (zint : PySem.W.nsIn K mainGlobals "int" = some none)
    (zstr : PySem.W.nsIn K mainGlobals "str" = some none)
    (zmin : PySem.W.nsIn K mainGlobals "min" = some none)
    (zmax : PySem.W.nsIn K mainGlobals "max" = some none)
    (zall : PySem.W.nsIn K mainGlobals "all" = some none)
    (zrange : PySem.W.nsIn K mainGlobals "range" = some none)
    (zsorted : PySem.W.nsIn K mainGlobals "sorted" = some none)
    (zlist : PySem.W.nsIn K mainGlobals "list" = some none)
    (ztuple : PySem.W.nsIn K mainGlobals "tuple" = some none)
    (zdict : PySem.W.nsIn K mainGlobals "dict" = some none)
    (zisinstance : PySem.W.nsIn K mainGlobals "isinstance" = some none)
    (zsum : PySem.W.nsIn K mainGlobals "sum" = some none)
    (vL : PySem.W.nsIn K mainGlobals "LETTERS" = some (some (.str "abcdefghijklmnopqrstuvwxyz" t1)))
    (vD : PySem.W.nsIn K mainGlobals "DIGITS" = some (some (.str "0123456789" t2)))
    (vML : PySem.W.nsIn K mainGlobals "MOST_LETTERS" = some (some (.int 3 t3)))
    (vMD : PySem.W.nsIn K mainGlobals "MOST_DIGITS" = some (some (.int 60 t4)))
    (vP : PySem.W.nsIn K mainGlobals "PART" = some (some (.int (10 ^ 64) t5)))
    (nne : PySem.W.findIn K (.ref C) "__ne__" = some (some (.builtin "object.__ne__")))
    (sb3 : PySem.W.subIn K (.type "str") (.ref C) = some false)
    (sb4 : PySem.W.subIn K (.type "tuple") (.ref C) = some false)
    : ∃ fd : FuncData, (∀ (s : Shared) (v : Value), BindsTo s fd ⟨[v], []⟩ [("script", v)]) ∧ ∀ base : Heap, K.In base → base.Ns mainGlobals mg → FnOk l.prog w K mg base CX0 12 fa fd ["script"] (spLaw K) := by
  have e := hfa.symm.trans (PySem.W.mg_of X G a8)
  cases e
  have T : Txt mg := ⟨PySem.W.mg_none_of X G zlen, PySem.W.mg_none_of X G zabs, PySem.W.mg_none_of X G zint, PySem.W.mg_none_of X G zstr, PySem.W.mg_none_of X G zmin, PySem.W.mg_none_of X G zmax, PySem.W.mg_none_of X G zall, PySem.W.mg_none_of X G zrange, PySem.W.mg_none_of X G zsorted, PySem.W.mg_none_of X G zlist, PySem.W.mg_none_of X G ztuple, PySem.W.mg_none_of X G zdict, PySem.W.mg_none_of X G zisinstance, PySem.W.mg_none_of X G zsum, ⟨_, PySem.W.mg_of X G vL⟩, ⟨_, PySem.W.mg_of X G vD⟩, ⟨_, PySem.W.mg_of X G vML⟩, ⟨_, PySem.W.mg_of X G vMD⟩⟩
  have cl : Cls K C := ⟨pg, hd, po, sa⟩
  have i1 : PySem.W.kitOne K (.ref C) (.type "int") = some false := by
    unfold PySem.W.kitOne PySem.W.kitCls
    rw [if_neg (by simp)]
    show (if PySem.W.kitMeta "int" = true then PySem.W.subIn K (.ref C) (.type "int") else none) = some false
    rw [if_pos (by decide +kernel)]
    exact sb2
  have i2 : PySem.W.kitOne K (.type "int") (.ref C) = some false := by
    unfold PySem.W.kitOne PySem.W.kitCls
    rw [if_neg (by simp)]
    show (if ((PySem.W.clsIn K C).isSome && PySem.W.typeIn K (.ref C) == some (.type "type")) = true then PySem.W.subIn K (.type "int") (.ref C) else none) = some false
    rw [if_pos (by rw [tyC, show (PySem.W.clsIn K C).isSome = true from isC]; simp)]
    exact sb1
  have R : FormK K C := ⟨cl, n1, n2, ha, hn, htk, hm, i1, i2⟩
  have M : Mk K C fInit := ⟨mk, a91, i91, kc⟩
  have hForm := PySem.W.mg_of X G aC
  have F0 := fun_mk (st := s_law_bag) l0 c0 k0
  have b0 := F0.binds (ps := ["script", "at"]) fun _ _ _ _ _ _ us hl => match us, hl with | [_, _], _ => rfl
  have F1 := fun_mk (st := s_law_take) l1 c1 k1
  have b1 := F1.binds (ps := ["bag", "many"]) fun _ _ _ _ _ _ us hl => match us, hl with | [_, _], _ => rfl
  have F2 := fun_mk (st := s_law_number) l2 c2 k2
  have b2 := F2.binds (ps := ["bag"]) fun _ _ _ _ _ _ us hl => match us, hl with | [_], _ => rfl
  have F3 := fun_mk (st := s_law_symbol) l3 c3 k3
  have b3 := F3.binds (ps := ["bag"]) fun _ _ _ _ _ _ us hl => match us, hl with | [_], _ => rfl
  have F4 := fun_mk (st := s_law_pairs) l4 c4 k4
  have b4 := F4.binds (ps := ["bag", "many"]) fun _ _ _ _ _ _ us hl => match us, hl with | [_, _], _ => rfl
  have F5 := fun_mk (st := s_law_sums) l5 c5 k5
  have b5 := F5.binds (ps := ["pairs"]) fun _ _ _ _ _ _ us hl => match us, hl with | [_], _ => rfl
  have F6 := fun_mk (st := s_law_turned) l6 c6 k6
  have b6 := F6.binds (ps := ["bag", "pairs"]) fun _ _ _ _ _ _ us hl => match us, hl with | [_, _], _ => rfl
  have F7 := fun_mk (st := s_law_same) l7 c7 k7
  have b7 := F7.binds (ps := ["one", "other"]) fun _ _ _ _ _ _ us hl => match us, hl with | [_, _], _ => rfl
  have F8 := fun_mk (st := s_law) l8 c8 k8
  have F9 := fun_mk (st := s_is_list_name) l9 c9 k9
  have b9 := F9.binds (ps := ["text"]) fun _ _ _ _ _ _ us hl => match us, hl with | [_], _ => rfl
  have F10 := fun_mk (st := s_is_round_symbol) l10 c10 k10
  have b10 := F10.binds (ps := ["text"]) fun _ _ _ _ _ _ us hl => match us, hl with | [_], _ => rfl
  have F11 := fun_mk (st := s_is_symbol) l11 c11 k11
  have b11 := F11.binds (ps := ["text"]) fun _ _ _ _ _ _ us hl => match us, hl with | [_], _ => rfl
  have F12 := fun_mk (st := s_digits) l12 c12 k12
  have b12 := F12.binds (ps := ["number"]) fun _ _ _ _ _ _ us hl => match us, hl with | [_], _ => rfl
  have F13 := fun_mk (st := s_part) l13 c13 k13
  have b13 := F13.binds (ps := ["coefficient", "symbol"]) fun _ _ _ _ _ _ us hl => match us, hl with | [_, _], _ => rfl
  have F14 := fun_mk (st := s_joined) l14 c14 k14
  have b14 := F14.binds (ps := ["parts"]) fun _ _ _ _ _ _ us hl => match us, hl with | [_], _ => rfl
  have F15 := fun_mk (st := s_Form_symbols) l15 c15 k15
  have b15 := F15.binds (ps := ["self"]) fun _ _ _ _ _ _ us hl => match us, hl with | [_], _ => rfl
  have F16 := fun_mk (st := s_FormDpairs) l16 c16 k16
  have b16 := F16.binds (ps := ["self"]) fun _ _ _ _ _ _ us hl => match us, hl with | [_], _ => rfl
  have F17 := fun_mk (st := s_Form_written) l17 c17 k17
  have b17 := F17.binds (ps := ["self"]) fun _ _ _ _ _ _ us hl => match us, hl with | [_], _ => rfl
  have F18 := fun_mk (st := s_FormD_addD) l18 c18 k18
  have b18 := F18.binds (ps := ["self", "other"]) fun _ _ _ _ _ _ us hl => match us, hl with | [_, _], _ => rfl
  have F19 := fun_mk (st := s_FormD_subD) l19 c19 k19
  have b19 := F19.binds (ps := ["self", "other"]) fun _ _ _ _ _ _ us hl => match us, hl with | [_, _], _ => rfl
  have F20 := fun_mk (st := s_FormD_negD) l20 c20 k20
  have b20 := F20.binds (ps := ["self"]) fun _ _ _ _ _ _ us hl => match us, hl with | [_], _ => rfl
  have F21 := fun_mk (st := s_FormD_mulD) l21 c21 k21
  have b21 := F21.binds (ps := ["self", "other"]) fun _ _ _ _ _ _ us hl => match us, hl with | [_, _], _ => rfl
  have F22 := fun_mk (st := s_FormD_strD) l22 c22 k22
  have b22 := F22.binds (ps := ["self"]) fun _ _ _ _ _ _ us hl => match us, hl with | [_], _ => rfl
  have F23 := fun_mk (st := s_FormD_eqD) l23 c23 k23
  have b23 := F23.binds (ps := ["self", "other"]) fun _ _ _ _ _ _ us hl => match us, hl with | [_, _], _ => rfl
  have F90 := fun_mk (st := s_Form_of) l90 c90 k90
  have b90 := F90.binds (ps := ["cls", "constant", "pairs"]) fun _ _ _ _ _ _ us hl => match us, hl with | [_, _, _], _ => rfl
  have F91 : FunD K "__init__" "Form.__init__" (defArgs s_FormD_initD) (defBody s_FormD_initD) (defScope s_FormD_initD) [.int 0] [] fInit _ := ⟨⟨oc91, od91, .ref T0, kV91, dc91, pm91, an91, cd91, ct91, sl91, rfl, l91, c91, .inr ⟨by simp, T0, _, [Value.int 0 tT], nT, rfl, lT, rfl, .cons ⟨tT, rfl⟩ .nil⟩, .inl rfl⟩, k91⟩
  have c_bag : ∀ base : Heap, Cal l.prog w K mg base "_law_bag" 1 (spBag K) := fun base => ⟨_, _, _, PySem.W.mg_of X G a0, ok_bag F0 T, b0, k0⟩
  have c_take : ∀ base : Heap, Cal l.prog w K mg base "_law_take" 1 spTake := fun base => ⟨_, _, _, PySem.W.mg_of X G a1, ok_take F1 T, b1, k1⟩
  have c_number : ∀ base : Heap, Cal l.prog w K mg base "_law_number" 2 spNumber := fun base => ⟨_, _, _, PySem.W.mg_of X G a2, ok_number F2 T (c_take base), b2, k2⟩
  have c_symbol : ∀ base : Heap, Cal l.prog w K mg base "_law_symbol" 2 spSymbol := fun base => ⟨_, _, _, PySem.W.mg_of X G a3, ok_symbol F3 T (c_take base), b3, k3⟩
  have c_pairs : ∀ base : Heap, Cal l.prog w K mg base "_law_pairs" 3 spPairs := fun base => ⟨_, _, _, PySem.W.mg_of X G a4, ok_pairs F4 T (c_take base) (c_number base) (c_symbol base), b4, k4⟩
  have c_sums : ∀ base : Heap, Cal l.prog w K mg base "_law_sums" 1 spSums4 := fun base => ⟨_, _, _, PySem.W.mg_of X G a5, ok_sums F5 T, b5, k5⟩
  have c_turned : ∀ base : Heap, Cal l.prog w K mg base "_law_turned" 3 spTurned := fun base => ⟨_, _, _, PySem.W.mg_of X G a6, ok_turned F6 T (c_take base) (c_number base), b6, k6⟩
  have c_same : ∀ base : Heap, Cal l.prog w K mg base "_law_same" 1 spSame := fun base => ⟨_, _, _, PySem.W.mg_of X G a7, ok_same F7 T, b7, k7⟩
  have c_digits : ∀ base : Heap, Cal l.prog w K mg base "_digits" 1 spDigits := fun base => ⟨_, _, _, PySem.W.mg_of X G a12, ok_digits F12 T ⟨_, PySem.W.mg_of X G vP⟩, b12, k12⟩
  have c_prt : ∀ base : Heap, Cal l.prog w K mg base "_part" 2 spPrt := fun base => ⟨_, _, _, PySem.W.mg_of X G a13, ok_prt F13 T (c_digits base), b13, k13⟩
  have c_joined : ∀ base : Heap, Cal l.prog w K mg base "_joined" 1 spJoined := fun base => ⟨_, _, _, PySem.W.mg_of X G a14, ok_joined F14 T, b14, k14⟩
  have c_isl : ∀ base : Heap, Cal l.prog w K mg base "is_list_name" 1 spIsL := fun base => ⟨_, _, _, PySem.W.mg_of X G a9, ok_isl F9 T, b9, k9⟩
  have c_isr : ∀ base : Heap, Cal l.prog w K mg base "is_round_symbol" 1 spIsR := fun base => ⟨_, _, _, PySem.W.mg_of X G a10, ok_isr F10 T, b10, k10⟩
  have c_iss : ∀ base : Heap, Cal l.prog w K mg base "is_symbol" 2 spIsS := fun base => ⟨_, _, _, PySem.W.mg_of X G a11, ok_iss F11 T (c_isl base) (c_isr base), b11, k11⟩
  have c_init : ∀ base : Heap, KwX.KwOk l.prog w K mg base 3 fInit (.int 0) (spInit C) := fun base => ok_init F91 T R (c_iss base)
  have c_of : ∀ base : Heap, CalC l.prog w K mg base C "of" 5 (spOf C) := fun base => ⟨.type "type", pOf, fOf, ⟨rd, ga⟩, ⟨cm, ⟨rest, rc⟩, fi⟩, by
    have z := FnOk.raw (ok_of (base := base) (w := w) (P := l.prog) F90 T R M hForm (c_init base) (c_iss base)) b90 .nil
    refine z.imp fun vs H Q E h => ?_
    rw [List.append_nil]
    exact h⟩
  have c_symbols : ∀ base : Heap, CalM l.prog w K mg base C "symbols" 1 (spSymbols C) := fun base => ⟨cl, _, _, _, ⟨a15, i15, k15⟩, ok_symbols F15 T R, b15⟩
  have c_fpairs : ∀ base : Heap, CalM l.prog w K mg base C "_pairs" 2 (spFPairs C) := fun base => ⟨cl, _, _, _, ⟨a16, i16, k16⟩, ok_fpairs F16 T R (c_symbols base), b16⟩
  have c_fwritten : ∀ base : Heap, CalM l.prog w K mg base C "written" 3 (spFWritten C) := fun base => ⟨cl, _, _, _, ⟨a17, i17, k17⟩, ok_fwritten F17 T R (c_fpairs base), b17⟩
  have c_add : ∀ base : Heap, CalO l.prog w K mg base C .Add 6 (spAdd C) := fun base => ⟨_, _, _, ⟨sf, a18, i18, ⟨_, rAdd, .inr ⟨_, rfl⟩⟩, ⟨_, iAAdd⟩, ⟨_, iBAdd⟩, sb1⟩, ok_add F18 T R hForm (c_of base) (c_fpairs base), b18⟩
  have c_mul : ∀ base : Heap, CalO l.prog w K mg base C .Mult 6 (spMul C) := fun base => ⟨_, _, _, ⟨sf, a21, i21, ⟨_, rMul, .inr ⟨_, rfl⟩⟩, ⟨_, iAMul⟩, ⟨_, iBMul⟩, sb1⟩, ok_mul F21 T R hForm (c_of base) (c_fpairs base), b21⟩
  have c_neg : ∀ base : Heap, CalU l.prog w K mg base C 7 (spNeg C) := fun base => ⟨_, _, _, a20, i20, ok_neg F20 T R (c_mul base), b20⟩
  have c_sub : ∀ base : Heap, CalO l.prog w K mg base C .Sub 8 (spSub C) := fun base => ⟨_, _, _, ⟨sf, a19, i19, ⟨_, rSub, .inr ⟨_, rfl⟩⟩, ⟨_, iASub⟩, ⟨_, iBSub⟩, sb1⟩, ok_sub F19 T R (c_add base) (c_neg base), b19⟩
  have c_str : ∀ base : Heap, OpX.CalG l.prog w K mg base C "__str__" 3 (spStr C) := fun base => ⟨_, _, _, a22, i22, g22, ok_str F22 T R (c_digits base) (c_prt base) (c_joined base) (c_fpairs base), b22⟩
  have kS : PySem.W.kitOne K (.type "str") (.ref C) = some false := by
    unfold PySem.W.kitOne PySem.W.kitCls
    rw [if_neg (by simp)]
    show (if ((PySem.W.clsIn K C).isSome && PySem.W.typeIn K (.ref C) == some (.type "type")) = true then PySem.W.subIn K (.type "str") (.ref C) else none) = some false
    rw [if_pos (by rw [tyC, show (PySem.W.clsIn K C).isSome = true from isC]; simp)]
    exact sb3
  have kT : PySem.W.kitOne K (.type "tuple") (.ref C) = some false := by
    unfold PySem.W.kitOne PySem.W.kitCls
    rw [if_neg (by simp)]
    show (if ((PySem.W.clsIn K C).isSome && PySem.W.typeIn K (.ref C) == some (.type "type")) = true then PySem.W.subIn K (.type "tuple") (.ref C) else none) = some false
    rw [if_pos (by rw [tyC, show (PySem.W.clsIn K C).isSome = true from isC]; simp)]
    exact sb4
  have c_eq : ∀ base : Heap, OpX.CalE l.prog w K mg base C 1 (spEqB C) := fun base => ⟨_, _, _, ⟨a23, i23, sb1, sb3, sb4⟩, ok_eq F23 T R kS kT hForm, b23⟩
  have N : OpX.NeC K C := ⟨nne, hm⟩
  refine ⟨_, fun s v => .of_eq rfl, fun base _ _ => ok_law F8 T R M N sb2 hForm (c_bag base) (c_take base) (c_number base) (c_symbol base) (c_pairs base) (c_turned base) (c_sums base) (c_same base) (c_init base) (c_of base) (c_str base) (c_fwritten base) (c_eq base) (c_add base) (c_sub base)⟩
theorem walk {l : PySem.W.OpenLaw} {q : Program} {loose : List Str} {XP : (Str → Option Value) → Heap → Prop} {YP : World → Heap → Prop} {d : DefRec} {K : Params → PySem.W.Frag} (hn : l.most = some 63) (hdf : d.params.defaults = [])
    (hY : ∀ (w : World) (h : Heap), YP w h → (K w.params).In h)
    (F : ∀ (w : World) (mg : Str → Option Value) (fa : Addr) (h : Heap), (K w.params).In h → h.Ns mainGlobals mg → mg d.name = some (.ref fa) →
      ∃ fd : FuncData, (∀ (s : Shared) (u : Value), BindsTo s fd ⟨[u], []⟩ [("script", u)]) ∧ ∀ base : Heap, (K w.params).In base → base.Ns mainGlobals mg → FnOk l.prog w (K w.params) mg base CX0 12 fa fd ["script"] (spLaw (K w.params))) :
    PySem.W.WalkO q loose XP YP l.row.toRowW d [] (fun f vs => PySem.call f vs) :=
  L2.walk_of (n := 63) (k := 12) (x := "script") (CX := fun _ => CX0) (sp := fun w => spLaw (K w.params)) hn (by decide) hdf ⟨rfl, by decide, by decide⟩ hY F (fun _ _ a ns hl _ hS => ⟨a, ns, rfl, hS, hl, fun _ => rfl⟩) fun _ _ _ _ _ z => z
end Ow

open PySem PySem.W PyProof.Rows in
set_option maxRecDepth 100000 in
set_option maxHeartbeats 0 in
theorem PySem.Challenge.cw_owedanswers_k04_forms_equal_holds : PySem.Challenge.rw_owedanswers_k04_forms_equal.Holds := by
  w_on; o_law; k_head; (case hw => w_witness2)
  k_fill
  refine Ow.walk (l := PySem.Challenge.rw_owedanswers_k04_forms_equal) rfl rfl (fun w h Y => PySem.W.kIn_of Y) ?F
  case F =>
    intro w mg fa h KX G hmg
    refine' Ow.all_mk KX G hmg ?aC ?a0 ?l0 ?c0 ?k0 ?a1 ?l1 ?c1 ?k1 ?a2 ?l2 ?c2 ?k2 ?a3 ?l3 ?c3 ?k3 ?a4 ?l4 ?c4 ?k4 ?a5 ?l5 ?c5 ?k5 ?a6 ?l6 ?c6 ?k6 ?a7 ?l7 ?c7 ?k7 ?a8 ?l8 ?c8 ?k8 ?a9 ?l9 ?c9 ?k9 ?a10 ?l10 ?c10 ?k10 ?a11 ?l11 ?c11 ?k11 ?a12 ?l12 ?c12 ?k12 ?a13 ?l13 ?c13 ?k13 ?a14 ?l14 ?c14 ?k14 ?a15 ?i15 ?l15 ?c15 ?k15 ?a16 ?i16 ?l16 ?c16 ?k16 ?a17 ?i17 ?l17 ?c17 ?k17 ?a18 ?i18 ?l18 ?c18 ?k18 ?a19 ?i19 ?l19 ?c19 ?k19 ?a20 ?i20 ?l20 ?c20 ?k20 ?a21 ?i21 ?l21 ?c21 ?k21 ?a22 ?i22 ?g22 ?l22 ?c22 ?k22 ?a23 ?i23 ?l23 ?c23 ?k23 ?rd ?ga ?cm ?rc ?fi ?l90 ?c90 ?k90 ?a91 ?i91 ?l91 ?c91 ?k91 ?lT ?pg ?hd ?po ?sa ?mk ?kc ?n1 ?n2 ?ha ?hn ?htk ?hm ?isC ?tyC ?sf ?sb1 ?sb2 ?iAAdd ?iBAdd ?rAdd ?iASub ?iBSub ?rSub ?iAMul ?iBMul ?rMul ?zlen ?zabs ?zint ?zstr ?zmin ?zmax ?zall ?zrange ?zsorted ?zlist ?ztuple ?zdict ?zisinstance ?zsum ?vL ?vD ?vML ?vMD ?vP ?nne ?sb3 ?sb4
    (case aC => k_is)
    (case a0 => k_is)
    (case l0 => k_is)
    (case c0 => k_is)
    (case k0 => k_is)
    (case a1 => k_is)
    (case l1 => k_is)
    (case c1 => k_is)
    (case k1 => k_is)
    (case a2 => k_is)
    (case l2 => k_is)
    (case c2 => k_is)
    (case k2 => k_is)
    (case a3 => k_is)
    (case l3 => k_is)
    (case c3 => k_is)
    (case k3 => k_is)
    (case a4 => k_is)
    (case l4 => k_is)
    (case c4 => k_is)
    (case k4 => k_is)
    (case a5 => k_is)
    (case l5 => k_is)
    (case c5 => k_is)
    (case k5 => k_is)
    (case a6 => k_is)
    (case l6 => k_is)
    (case c6 => k_is)
    (case k6 => k_is)
    (case a7 => k_is)
    (case l7 => k_is)
    (case c7 => k_is)
    (case k7 => k_is)
    (case a8 => k_is)
    (case l8 => k_is)
    (case c8 => k_is)
    (case k8 => k_is)
    (case a9 => k_is)
    (case l9 => k_is)
    (case c9 => k_is)
    (case k9 => k_is)
    (case a10 => k_is)
    (case l10 => k_is)
    (case c10 => k_is)
    (case k10 => k_is)
    (case a11 => k_is)
    (case l11 => k_is)
    (case c11 => k_is)
    (case k11 => k_is)
    (case a12 => k_is)
    (case l12 => k_is)
    (case c12 => k_is)
    (case k12 => k_is)
    (case a13 => k_is)
    (case l13 => k_is)
    (case c13 => k_is)
    (case k13 => k_is)
    (case a14 => k_is)
    (case l14 => k_is)
    (case c14 => k_is)
    (case k14 => k_is)
    (case a15 => k_is)
    (case i15 => k_is)
    (case l15 => k_is)
    (case c15 => k_is)
    (case k15 => k_is)
    (case a16 => k_is)
    (case i16 => k_is)
    (case l16 => k_is)
    (case c16 => k_is)
    (case k16 => k_is)
    (case a17 => k_is)
    (case i17 => k_is)
    (case l17 => k_is)
    (case c17 => k_is)
    (case k17 => k_is)
    (case a18 => k_is)
    (case i18 => k_is)
    (case l18 => k_is)
    (case c18 => k_is)
    (case k18 => k_is)
    (case a19 => k_is)
    (case i19 => k_is)
    (case l19 => k_is)
    (case c19 => k_is)
    (case k19 => k_is)
    (case a20 => k_is)
    (case i20 => k_is)
    (case l20 => k_is)
    (case c20 => k_is)
    (case k20 => k_is)
    (case a21 => k_is)
    (case i21 => k_is)
    (case l21 => k_is)
    (case c21 => k_is)
    (case k21 => k_is)
    (case a22 => k_is)
    (case i22 => k_is)
    (case g22 => k_is)
    (case l22 => k_is)
    (case c22 => k_is)
    (case k22 => k_is)
    (case a23 => k_is)
    (case i23 => k_is)
    (case l23 => k_is)
    (case c23 => k_is)
    (case k23 => k_is)
    (case rd => k_is)
    (case ga => k_is)
    (case cm => k_is)
    (case rc => k_is)
    (case fi => k_is)
    (case l90 => k_is)
    (case c90 => k_is)
    (case k90 => k_is)
    (case a91 => k_is)
    (case i91 => k_is)
    (case l91 => k_is)
    (case c91 => k_is)
    (case k91 => k_is)
    (case lT => k_is)
    (case pg => k_is)
    (case hd => k_is)
    (case po => k_is)
    (case sa => k_is)
    (case mk => k_is)
    (case kc => k_is)
    (case n1 => k_is)
    (case n2 => k_is)
    (case ha => k_is)
    (case hn => k_is)
    (case htk => k_is)
    (case hm => k_is)
    (case isC => k_is)
    (case tyC => k_is)
    (case sf => k_is)
    (case sb1 => k_is)
    (case sb2 => k_is)
    (case iAAdd => k_is)
    (case iBAdd => k_is)
    (case rAdd => k_is)
    (case iASub => k_is)
    (case iBSub => k_is)
    (case rSub => k_is)
    (case iAMul => k_is)
    (case iBMul => k_is)
    (case rMul => k_is)
    (case zlen => k_is)
    (case zabs => k_is)
    (case zint => k_is)
    (case zstr => k_is)
    (case zmin => k_is)
    (case zmax => k_is)
    (case zall => k_is)
    (case zrange => k_is)
    (case zsorted => k_is)
    (case zlist => k_is)
    (case ztuple => k_is)
    (case zdict => k_is)
    (case zisinstance => k_is)
    (case zsum => k_is)
    (case vL => k_is)
    (case vD => k_is)
    (case vML => k_is)
    (case vMD => k_is)
    (case vP => k_is)
    (case nne => k_is)
    (case sb3 => k_is)
    (case sb4 => k_is)
