import PyProof.Rows.All
import Wide.All
import OpenK.AllK
import Wide.FinOn
import HandS.ForMost
import HandS.Exc
import HandS.ExcOwn
import HandS.ExcInit
import HandS.IsInst
import HandS.Gcd
import HandS.RaiseMore
import HandS.FStr
import HandS.ListEq
import HandS.DictEq
import HandS.Wide
import HandS.Evl
import HandS.More
import KE.KExcIs
import KE.KExcSuper
import HandS.Ends
import PySem.Challenge.RW_fillerfed_k28_errors_and_fractions
set_option Elab.async false
set_option linter.all false
set_option maxRecDepth 100000
set_option maxHeartbeats 4000000
set_option exponentiation.threshold 500
/-! V0: what the laws of this program share: data in the abstract heap, == and repr of data at any depth, defs that know that no repr runs around them -/
namespace Vd
open PySem PySem.Spec PyProof.Rows L2

/-! ### defs that are called where no repr is under way -/
/-- a def's promise where nothing around holds a guard (a repr of a list ..) -/
structure FnG (P : Program) (w : World) (K : PySem.W.Frag) (mg : Str → Option Value) (base : Heap) (k : Nat) (f : Addr) (fd : FuncData) (ps : List Str) (sp : Sp) : Prop where
  many : ∀ vs H Q E, sp vs H Q E → vs.length = ps.length
  go : ∀ (B : Around) (frames : List Env) (t : Shared) (G : Hp) (args : Args) (us : List Value) (vs : List V) (Q : VK) (E : XK),
    Room k B → B.guards = some [] → Env0 P w K mg base B frames t G → BindsTo t fd args (ps.zip us) → Vals vs us → sp vs G Q E →
    codeAny (model P w) B (.call (.ref f) args) (CR CX0 frames P w G t Q E) t
section
variable {P : Program} {w : World} {K : PySem.W.Frag} {mg : Str → Option Value} {base : Heap} {k : Nat} {f : Addr} {fd : FuncData} {ps : List Str} {sp : Sp}
theorem FnG.of (F : FnOk P w K mg base CX0 k f fd ps sp) : FnG P w K mg base k f fd ps sp :=
  ⟨F.len, fun B frames t G args us vs Q E room _ env bind rel prom => F.run B frames t G args us vs Q E room env bind rel prom⟩
/-- by the body; the room and the guards are told -/
theorem okG {x qual : Str} {st : Stmt} {N : List Str} (F : Fun K x qual st f fd) (S : FnScope N ps (defScope st)) (many : ∀ vs H Q E, sp vs H Q E → vs.length = ps.length)
    (body : ∀ (cdv : Value) (B : Around) (frames : List Env) (t : Shared) (G : Hp) (vs : List V) (Q : VK) (E : XK),
      Room k (B.deeper (envOfC qual (defScope st) t.heap.objs.size f cdv)) → (B.deeper (envOfC qual (defScope st) t.heap.objs.size f cdv)).guards = some [] → sp vs G Q E →
      ∃ r, PSs (cxOf CX0 P w K mg base N qual (defScope st) f cdv B frames t G E).nox (defBody st) r ∧ r { nx := fun _ G' => Q .non G', rt := Q } (start N vs) G) :
    FnG P w K mg base (k + 1) f fd ps sp := by
  obtain ⟨oc, od, kV, doc, pm, an, cdv, ct, osl, rfl, at_f, code⟩ := F.ex
  refine ⟨many, fun B frames t G args us vs Q E room guards env bind rel prom => ?_⟩
  have there : K.In t.heap := env.mod.kin.keeps fun b o q => (env.bs b o q).1
  refine codeAny_call_function room.depth (there _ _ at_f) rfl S.co S.gen rfl (PySem.W.codeRec_of there code) (bind _ _ _ _ ?_)
  refine wpAny_newFunctionEnv_cells S.kind (fun ⟨n, v⟩ hy => ?_) fun env1 same t1 inside => ?_
  · rcases S.par n (List.of_mem_zip hy).1 with q | q
    · exact Or.inl q
    · exact Or.inr ⟨q, PySem.W.cellsFrom_some _ _ _ (Or.inl q)⟩
  · subst same
    have free : t.heap.NoLimit := env.mod.nolimit.keeps fun b o q => (env.bs b o q).1
    refine ⟨free.keeps inside.toInCall.keep, codeAny_func ?_⟩
    obtain ⟨r, walks, reads⟩ := body cdv B frames t G vs Q E (room.deeper _) guards prom
    have J := inv_start (CX := CX0) (P := P) (w := w) (E := E) S room.hd env (many _ _ _ _ prom) rel inside
    refine wpAny_mono (walks.nox.run [] t1 (start N vs) G _ J reads) (fun flow t2 got => ?_) (fun _ _ no => no)
    cases flow with
    | ret u => obtain ⟨v, σ2, G2, J2, rv, q⟩ := got; exact ⟨v, G2, J2.os, J2.bare, J2.base, J2.hok, rv, q⟩
    | next => obtain ⟨σ2, G2, J2, q⟩ := got; exact ⟨V.non, G2, J2.os, J2.bare, J2.base, J2.hok, rfl, q⟩
    | brk => obtain ⟨_, _, _, no⟩ := got; exact no.elim
    | cont => obtain ⟨_, _, _, no⟩ := got; exact no.elim
end
section
variable {X : Cx} {k : Nat} {f : Addr} {fd : FuncData} {ps : List Str} {sp : Sp}
/-- f(e, ..) where no guard is around -/
theorem callG {x : Str} {p pos : Pos} {e : Expr} {es : List Expr} {ta : TA} (F : FnG X.prog X.w X.K X.mg X.base k f fd ps sp) (room : Room k X.A) (guards : X.A.guards = some []) (hg : Gl X x) (hm : X.mg x = some (.ref f))
    (hk : PySem.W.keepIn X.K (.ref f) = true) (hb : Binds X.K fd ps []) (ha : PA X (e :: es) ta) (nd : (x == ("__debug__" : Str)) = false := by decide)
    (he : starEach (e :: es) X.env = (false, eval e X.env) :: starEach es X.env := by rfl) (hp : (backTo pos (starEach es X.env)).any (·.1) = false := by rfl) :
    PE X (.Call (.Name x p) (e :: es) [] pos) (fun σ H Q => ta σ H fun vs H1 => sp vs H1 Q E0) := by
  constructor
  intro pins s σ H Q I h
  refine wpAny_Call_Name_kw (ld_glob I hg hm ?_ nd)
  refine PySem.W.callWith_K (h₀ := X.base) I.ok.mod.kin hk (thn (ha.run pos pins s σ H _ I h) ?_) he hp
  rintro us s1 ⟨vs, H1, I1, rel, prom⟩
  refine ⟨I1.kIn, ?_⟩
  have bind := hb s1 us I1.kIn (by rw [List.append_nil, ← rel.length]; exact F.many _ _ _ _ prom)
  rw [List.append_nil] at bind
  refine wpAny_call (codeAny_mono (F.go X.A X.stack s1 H1 ⟨us, []⟩ us vs Q E0 room guards I1.env0 bind rel prom) fun r s2 got => ?_)
  match r, got with
  | .ok (.ret u), got => exact I1.after got
  | .ok .next, no => exact no.elim
  | .ok .brk, no => exact no.elim
  | .ok .cont, no => exact no.elim
  | .error _, no => exact no.elim
end
end Vd

namespace Vd
open PySem PySem.Spec PyProof.Rows L2

/-! ### == of tuples within one model -/
section
open AutoSeq1 MeetsSeq MeetsSeq2 MeetsSeq3 SeqRoads2
variable {prog : Program} {w : World}
theorem eqTup (l b : Addr) (xs ys : Array Value) (n m : Nat) (d1 d2 : Option Addr) (s1 s2 : Array (Option Value)) (same : xs.size = ys.size) :
    MeetsIn prog w (Builtin.«tuple.__eq__» ⟨[.ref l, .ref b], []⟩)
      (fun A R s => s.heap.get? l = some { cls := .type "tuple", dict := d1, data := .seq xs n, slots := s1 } ∧ s.heap.get? b = some { cls := .type "tuple", dict := d2, data := .seq ys m, slots := s2 } ∧
        (∀ j (p : j < xs.size) (q : j < ys.size), SeqAt.EqP prog w A.in1 s xs[j] ys[j] true) ∧ R (.ok (.ret (.bool true))) s) := by
  refine MeetsIn.of_wp fun A R s h => ?_
  obtain ⟨hp, g, d, tk, os⟩ := s
  obtain ⟨hl, hb, he, h⟩ := h
  have both := AutoSeq1.sub_tuple_tuple
  have len : (xs.toList.zip ys.toList).length = xs.size := by simp [same]
  wp_walk using wpAny_loadPart' hl, wpAny_loadPart' hb, wpAny_forIn_list _ (fun rest b s' => b.1 = none ∧ s' = ⟨hp, g, d, tk, os⟩ ∧ ∃ i, rest = (xs.toList.zip ys.toList).drop i) _
  case turn =>
    rintro ⟨y, x⟩ rest b s' ⟨hb', rfl, i, hz⟩
    have small : i < (xs.toList.zip ys.toList).length := by
      refine Nat.lt_of_not_le fun big => ?_
      rw [List.drop_of_length_le big] at hz
      cases hz
    have p : i < xs.size := len ▸ small
    have q : i < ys.size := same ▸ p
    rw [List.drop_eq_getElem_cons small] at hz
    injection hz with yx tail
    obtain ⟨ey, ex⟩ := Prod.mk.inj yx
    have ey' : y = xs[i] := by simpa using ey
    have ex' : x = ys[i] := by simpa using ex
    subst ey' ex'
    refine wpAny_bind (he i p q _ _ ?_)
    wp_walk
    exact ⟨rfl, rfl, i + 1, tail⟩
  case fin =>
    rintro ⟨b1, b2⟩ s' ⟨none1, rfl, i, _⟩
    simp only at none1
    subst none1
    wp_walk
    refine ⟨_, rfl, ?_⟩
    simpa [Builtin.Tuple.tupleCompareSizes, same] using h
  case h => exact ⟨rfl, rfl, 0, rfl⟩
theorem rcTup {A : Around} {s : Shared} {l b : Addr} {xs ys : Array Value} (hl : s.heap.IsTuple l xs) (hb : s.heap.IsTuple b ys) (same : xs.size = ys.size) (room : A.units < cLine)
    (he : ∀ j (p : j < xs.size) (q : j < ys.size), SeqAt.EqP prog w A.in1 s xs[j] ys[j] true) (E Q : Value → Shared → Prop) (h : Q (.bool true) s) : wpAny (model prog w) A (richCompare .Eq (.ref l) (.ref b)) Q E s := by
  obtain ⟨⟨_, d1, _, s1⟩, o1, rfl, n, rfl⟩ := id hl
  obtain ⟨⟨_, d2, _, s2⟩, o2, rfl, m, rfl⟩ := id hb
  have t1 : s.TypeIs (.ref l) "tuple" := ⟨_, o1, rfl⟩
  refine wpAny_richCompare_same_room (op := .Eq) t1 ⟨_, o2, rfl⟩ F.slot_tuple_eq ?_ room
  exact call_meetsIn F.slot_tuple_eq t1 F.entry_tuple_eq (F.args_tuple_eq_2 _ _) (eqTup l b xs ys n m d1 d2 s1 s2 same) ⟨o1, o2, he, (show Value.bool true ≠ Value.notImplemented ∧ Q (.bool true) s from ⟨fun no => (nomatch no), h⟩)⟩
end

/-! ### data in a heap: its dicts are not the module's own -/
mutual
inductive Rd2 (h : Heap) : Value → PyData → Prop
  | non : Rd2 h .none .none
  | bl (b : Bool) : Rd2 h (.bool b) (.bool b)
  | int (i : Int) (t : Tok) : Rd2 h (.int i t) (.int i)
  | str (x : Str) (t : Tok) : Rd2 h (.str x t) (.str x)
  | lst {a : Addr} {o : Obj} {items : Array Value} {n : Nat} {ds : List PyData} : h.get? a = some o → o.cls = .type "list" → o.data = .seq items n → Rd2s h items.toList ds → Rd2 h (.ref a) (.list ds)
  | tup {a : Addr} {o : Obj} {items : Array Value} {n : Nat} {ds : List PyData} : h.get? a = some o → o.cls = .type "tuple" → o.data = .seq items n → Rd2s h items.toList ds → Rd2 h (.ref a) (.tuple ds)
  | dic {a : Addr} {o : Obj} {es : Array DictEntry} {n : Nat} {ds : List (PyData × PyData)} : (a == sysModules) = false → h.get? a = some o → o.cls = .type "dict" → o.data = .dict es n →
      Rd2s h (es.toList.map (·.key)) (ds.map (·.1)) → Rd2s h (es.toList.map (·.val)) (ds.map (·.2)) → Rd2 h (.ref a) (.dict ds)
inductive Rd2s (h : Heap) : List Value → List PyData → Prop
  | nil : Rd2s h [] []
  | cons {v : Value} {vs : List Value} {d : PyData} {ds : List PyData} : Rd2 h v d → Rd2s h vs ds → Rd2s h (v :: vs) (d :: ds)
end
mutual
theorem Rd2.reads {h : Heap} : ∀ {v : Value} {d : PyData}, Rd2 h v d → ∃ as, Reads h v d as
  | _, _, .non => ⟨_, Reads.none⟩
  | _, _, .bl b => ⟨_, Reads.bool b⟩
  | _, _, .int i t => ⟨_, Reads.int i t⟩
  | _, _, .str x t => ⟨_, Reads.str x t⟩
  | _, _, .lst a b c r => let ⟨_, q⟩ := Rd2s.reads r; ⟨_, Reads.list a b c q⟩
  | _, _, .tup a b c r => let ⟨_, q⟩ := Rd2s.reads r; ⟨_, Reads.tuple a b c q⟩
  | _, _, .dic _ a b c r r' => let ⟨_, q⟩ := Rd2s.reads r; let ⟨_, q'⟩ := Rd2s.reads r'; ⟨_, Reads.dict a b c q q'⟩
theorem Rd2s.reads {h : Heap} : ∀ {vs : List Value} {ds : List PyData}, Rd2s h vs ds → ∃ as, ReadsAll h vs ds as
  | _, _, .nil => ⟨_, ReadsAll.nil⟩
  | _, _, .cons r rs => let ⟨_, q⟩ := Rd2.reads r; let ⟨_, q'⟩ := Rd2s.reads rs; ⟨_, ReadsAll.cons q q'⟩
end
/-- what can be shown, within the line -/
def Shows (d : PyData) : Prop := d.showable = true ∧ d.shown.length ≤ sizeLine
def ShowsAll (ds : List PyData) : Prop := PyData.showableAll ds = true ∧ ∀ t ∈ PyData.shownAll ds, t.length ≤ sizeLine
theorem ShowsAll.of_list {ds : List PyData} (h : Shows (.list ds)) : ShowsAll ds :=
  ⟨by simpa [PyData.showable] using h.1, fun t m => Nat.le_trans (listText_mem_le m) (by simpa only [PyData.shown] using h.2)⟩
theorem ShowsAll.of_tup {ds : List PyData} (h : Shows (.tuple ds)) : ShowsAll ds :=
  ⟨by simpa [PyData.showable] using h.1, fun t m => Nat.le_trans (tupleText_mem_le m) (by simpa only [PyData.shown] using h.2)⟩
theorem ShowsAll.of_dic {ds : List (PyData × PyData)} (h : Shows (.dict ds)) : ShowsAll (ds.map (·.1)) ∧ ShowsAll (ds.map (·.2)) := by
  obtain ⟨a, b⟩ := PyData.showableKv_split ds (by simpa [PyData.showable] using h.1)
  have z : (dictText (PyData.shownKv ds)).length ≤ sizeLine := by simpa only [PyData.shown] using h.2
  refine ⟨⟨a, fun t m => ?_⟩, b, fun t m => ?_⟩
  · obtain ⟨p, hp, hl⟩ := PyData.shownKv_key_le ds t m
    exact Nat.le_trans hl (Nat.le_trans (dictText_mem_le hp) z)
  · obtain ⟨p, hp, hl⟩ := PyData.shownKv_val_le ds t m
    exact Nat.le_trans hl (Nat.le_trans (dictText_mem_le hp) z)
section
variable {prog : Program} {w : World} {h : Heap}
/-- a list's, a tuple's, a dict's parts, none of which is the object itself -/
theorem apart {a : Addr} {d : PyData} {n : Nat} {bs : List Addr} (r : Rd2 h (.ref a) d) (deep : n < d.depth) (low : ReadAtMost h n bs) : a ∉ bs :=
  let ⟨_, q⟩ := r.reads; not_mem_of_deeper q deep low
theorem with_own {a : Addr} {d : PyData} {n : Nat} {bs : List Addr} (r : Rd2 h (.ref a) d) (deep : n ≤ d.depth) (low : ReadAtMost h n bs) : ReadAtMost h d.depth (a :: bs) :=
  let ⟨_, q⟩ := r.reads; ReadAtMost.cons q deep low
def KAll (prog : Program) (w : World) (h : Heap) (vs : List Value) (ds : List PyData) : Prop := ∃ bs, ReadAtMost h (PyData.depthAll ds) bs ∧ ReprAllK prog w bs h (PyData.depthAll ds) vs (PyData.shownAll ds)
theorem kEnt {es : List DictEntry} {ds : List (PyData × PyData)} (k : KAll prog w h (es.map (·.key)) (ds.map (·.1))) (v : KAll prog w h (es.map (·.val)) (ds.map (·.2))) :
    ∃ bs, ReadAtMost h (PyData.depthKv ds) bs ∧ ReprEntriesK prog w bs h (PyData.depthKv ds) es (PyData.shownKv ds) := by
  obtain ⟨b1, l1, k1⟩ := k
  obtain ⟨b2, l2, k2⟩ := v
  refine ⟨b1 ++ b2, (l1.mono (PyData.depthAll_keys_le ds)).append (l2.mono (PyData.depthAll_vals_le ds)), ?_⟩
  rw [PyData.shownKv_eq]
  exact .of_two es _ _ (k1.more_le (fun b m => List.mem_append_left b2 m) (PyData.depthAll_keys_le ds)) (k2.more_le (fun b m => List.mem_append_right b1 m) (PyData.depthAll_vals_le ds))
mutual
theorem repK : ∀ {v : Value} {d : PyData}, Rd2 h v d → Shows d → ∃ bs, ReadAtMost h d.depth bs ∧ ReprK prog w bs h d.depth v d.shown
  | _, _, .non, _ => ⟨[], (fun _ no => nomatch no), by simpa only [PyData.shown] using ReprK.of_is ReprIs.none _ _ _⟩
  | _, _, .bl b, _ => ⟨[], (fun _ no => nomatch no), by simpa only [PyData.shown] using ReprK.of_is (ReprIs.bool b) _ _ _⟩
  | _, _, .int i t, z => ⟨[], (fun _ no => nomatch no), by simpa only [PyData.shown] using ReprK.of_is (ReprIs.int t (of_decide_eq_true z.1)) _ _ _⟩
  | _, _, .str x t, z => ⟨[], (fun _ no => nomatch no), by simpa only [PyData.shown] using ReprK.of_is (ReprIs.str x t z.2) _ _ _⟩
  | _, _, .lst (a := a) (items := items) (ds := ds) o1 o2 o3 r, z => by
    have me : Rd2 h (.ref a) (.list ds) := .lst o1 o2 o3 r
    obtain ⟨bs, low, ks⟩ := repKs r (.of_list z)
    refine ⟨a :: bs, with_own me (Nat.le_succ _) low, ?_⟩
    show ReprK prog w (a :: bs) h (PyData.depthAll ds + 1) (.ref a) (listText (PyData.shownAll ds))
    obtain ⟨l⟩ := items
    cases l with
    | nil =>
      cases (show Rd2s h [] ds from r)
      exact ReprK.listEmpty o1 o2 o3
    | cons x l => exact ReprK.list o1 o2 o3 (apart me (Nat.lt_succ_self _) low) (by simpa using ks.length_eq) fun i y e => ks.item i y (by simpa using e)
  | _, _, .tup (a := a) (ds := ds) o1 o2 o3 r, z => by
    have me : Rd2 h (.ref a) (.tuple ds) := .tup o1 o2 o3 r
    obtain ⟨bs, low, ks⟩ := repKs r (.of_tup z)
    exact ⟨a :: bs, with_own me (Nat.le_succ _) low, ReprK.tuple o1 o2 o3 (apart me (Nat.lt_succ_self _) low) ks⟩
  | _, _, .dic (a := a) (ds := ds) far o1 o2 o3 r r', z => by
    have me : Rd2 h (.ref a) (.dict ds) := .dic far o1 o2 o3 r r'
    obtain ⟨bs, low, ks⟩ := kEnt (repKs r (ShowsAll.of_dic z).1) (repKs r' (ShowsAll.of_dic z).2)
    exact ⟨a :: bs, with_own me (Nat.le_succ _) low, ReprK.dict o1 o2 o3 far (apart me (Nat.lt_succ_self _) low) ks⟩
theorem repKs : ∀ {vs : List Value} {ds : List PyData}, Rd2s h vs ds → ShowsAll ds → KAll prog w h vs ds
  | _, _, .nil, _ => ⟨[], (fun _ no => nomatch no), .nil⟩
  | _, _, .cons (d := d) (ds := ds) r rs, z => by
    have z1 : d.showable = true ∧ PyData.showableAll ds = true := by simpa [PyData.showableAll] using z.1
    obtain ⟨b1, l1, k1⟩ := repK r ⟨z1.1, z.2 _ (List.Mem.head _)⟩
    obtain ⟨b2, l2, k2⟩ := repKs rs ⟨z1.2, fun t m => z.2 t (List.Mem.tail _ m)⟩
    have le1 : d.depth ≤ PyData.depthAll (d :: ds) := Nat.le_max_left _ _
    have le2 : PyData.depthAll ds ≤ PyData.depthAll (d :: ds) := Nat.le_max_right _ _
    exact ⟨b1 ++ b2, (l1.mono le1).append (l2.mono le2), .cons ((k1.more fun b m => List.mem_append_left _ m).level_le le1) (k2.more_le (fun b m => List.mem_append_right _ m) le2)⟩
end
/-- repr(v) -/
theorem reprRun {A : Around} {E : Value → Shared → Prop} {s : Shared} {Q : Value → Shared → Prop} : ∀ {v : Value} {d : PyData}, Rd2 s.heap v d → Shows d → A.guards = some [] → A.units + (d.depth + 1) < cLine →
    (∀ h' u tk, (∀ b o, s.heap.get? b = some o → h'.get? b = some o) → Q (.str d.shown u) { s with heap := h', toks := tk }) → wpAny (model prog w) A (call (.builtin "repr") [v]) Q E s
  | _, _, .non, _, _, _, q => PySem.P.repr_of_none (q _ _ _ fun _ _ e => e)
  | _, _, .bl b, _, _, _, q => PySem.P.repr_of_bool (q _ _ _ fun _ _ e => e)
  | _, _, .int i t, z, _, _, q => PySem.P.repr_of_int (of_decide_eq_true z.1) (q _ _ _ fun _ _ e => e)
  | _, _, .str x t, z, _, _, q => PySem.P.repr_of_str (q _ _ _ fun _ _ e => e) z.2
  | _, _, .lst (a := a) (items := items) (ds := ds) o1 o2 o3 r, z, g, room, q => by
    have me : Rd2 s.heap (.ref a) (.list ds) := .lst o1 o2 o3 r
    obtain ⟨bs, low, ks⟩ := repKs (prog := prog) (w := w) r (.of_list z)
    have room' : A.units + (PyData.depthAll ds + 1 + 1) < cLine := room
    refine call_repr_slot (by omega) ⟨_, o1, o2⟩ F.slot_list_repr.toG ?_
    obtain ⟨l⟩ := items
    cases l with
    | nil =>
      cases (show Rd2s s.heap [] ds from r)
      exact call_list_repr_empty ⟨_, o1, o2⟩ o1 o3 ⟨_, _, rfl, q s.heap _ _ fun _ _ e => e⟩
    | cons x l =>
      exact call_list_reprK o1 o2 o3 (apart me (Nat.lt_succ_self _) low) (by simpa using ks.length_eq) (fun i y e => ks.item i y (by simpa using e)) g (fun b _ => Clear.nil b) (by show A.units + 1 + _ < cLine; omega) (fun _ _ e => e)
        (fun h' u tk k => ⟨_, _, rfl, q h' u tk k⟩) z.2
  | _, _, .tup (a := a) (ds := ds) o1 o2 o3 r, z, g, room, q => by
    have me : Rd2 s.heap (.ref a) (.tuple ds) := .tup o1 o2 o3 r
    obtain ⟨bs, low, ks⟩ := repKs (prog := prog) (w := w) r (.of_tup z)
    have room' : A.units + (PyData.depthAll ds + 1 + 1) < cLine := room
    refine call_repr_slot (by omega) ⟨_, o1, o2⟩ F.slot_tuple_repr ?_
    exact call_tuple_reprK o1 o2 o3 (apart me (Nat.lt_succ_self _) low) ks g (fun b _ => Clear.nil b) (by show A.units + 1 + _ < cLine; omega) (fun _ _ e => e) (fun h' u tk k => ⟨_, _, rfl, q h' u tk k⟩) z.2
  | _, _, .dic (a := a) (ds := ds) far o1 o2 o3 r r', z, g, room, q => by
    have me : Rd2 s.heap (.ref a) (.dict ds) := .dic far o1 o2 o3 r r'
    obtain ⟨bs, low, ks⟩ := kEnt (repKs (prog := prog) (w := w) r (ShowsAll.of_dic z).1) (repKs r' (ShowsAll.of_dic z).2)
    have room' : A.units + (PyData.depthKv ds + 1 + 1) < cLine := room
    refine call_repr_slot (by omega) ⟨_, o1, o2⟩ F.slot_dict_repr ?_
    exact call_dict_reprK o1 o2 o3 far (apart me (Nat.lt_succ_self _) low) ks g (fun b _ => Clear.nil b) (by show A.units + 1 + _ < cLine; omega) (fun _ _ e => e) (fun h' u tk k => ⟨_, _, rfl, q h' u tk k⟩) z.2
end

/-! ### data in the abstract heap -/
def keyD : Key → PyData
  | .inl i => .int i
  | .inr x => .str x
mutual
/-- the value v is the data d: None, truths, ints, texts, lists, tuples, dicts by ints and texts -/
inductive Dat (K : PySem.W.Frag) (H : Hp) : V → PyData → Prop
  | non : Dat K H .non .none
  | bl (b : Bool) : Dat K H (.bl b) (.bool b)
  | int (i : Int) : Dat K H (.int i) (.int i)
  | str (x : Str) : Dat K H (.str x) (.str x)
  | lst {a : Addr} {xs : List V} {ds : List PyData} : SqL K H a xs → DatAll K H xs ds → Dat K H (.ref a) (.list ds)
  | tup {a : Addr} {xs : List V} {ds : List PyData} : SqT K H a xs → DatAll K H xs ds → Dat K H (.ref a) (.tuple ds)
  | dic {a : Addr} {kvs : List (Key × V)} {ds : List (PyData × PyData)} : H a = some (.dK kvs) → DatKv K H kvs ds → Dat K H (.ref a) (.dict ds)
inductive DatAll (K : PySem.W.Frag) (H : Hp) : List V → List PyData → Prop
  | nil : DatAll K H [] []
  | cons {v : V} {vs : List V} {d : PyData} {ds : List PyData} : Dat K H v d → DatAll K H vs ds → DatAll K H (v :: vs) (d :: ds)
inductive DatKv (K : PySem.W.Frag) (H : Hp) : List (Key × V) → List (PyData × PyData) → Prop
  | nil : DatKv K H [] []
  | cons {k : Key} {v : V} {r : List (Key × V)} {d : PyData} {ds : List (PyData × PyData)} : Dat K H v d → DatKv K H r ds → DatKv K H ((k, v) :: r) ((keyD k, d) :: ds)
end

/-! #### it stands in the heap -/
section
variable {X : Cx} {pins : List (Addr × Obj)} {σ : L2.St} {H : Hp} {s : Shared}
theorem key_reads {h : Heap} {k : Key} {u : Value} (r : keyIs k u = true) : Rd2 h u (keyD k) := by
  rcases keyIs_shape r with ⟨i, t, rfl, rfl⟩ | ⟨x, t, rfl, rfl⟩
  · exact .int i t
  · exact .str x t
theorem keys_read {w : World} {P : Program} {h : Heap} {es : List DictEntry} {vs : List (Key × Value)} (p : Pairs (mixKind P w) es vs) : Rd2s h (es.map (·.key)) (vs.map fun q => keyD q.1) ∧ es.map (·.val) = vs.map (·.2) := by
  induction p with
  | nil => exact ⟨.nil, rfl⟩
  | cons a b c ih => exact ⟨.cons (key_reads a) ih.1, by simp only [List.map_cons, b, ih.2]⟩
mutual
theorem Dat.rds (I : Inv X pins σ H s) : ∀ (d : PyData) (v : V) (u : Value), Dat X.K H v d → RelV v u → Rd2 s.heap u d
  | .none, _, _, h, r => by cases h; cases r; exact .non
  | .bool b, _, _, h, r => by cases h; cases r; exact .bl b
  | .int i, _, _, h, r => by cases h; obtain ⟨t, rfl⟩ := r; exact .int i t
  | .str x, _, _, h, r => by cases h; obtain ⟨t, rfl⟩ := r; exact .str x t
  | .list ds, _, _, h, r => by
    cases h with
    | @lst a xs _ at_a items =>
      cases r
      obtain ⟨its, rel, ⟨o, n, e1, e2, _, e3⟩, _⟩ := I.list at_a
      exact .lst e1 e2 e3 (DatAll.rds I ds _ its items rel)
  | .tuple ds, _, _, h, r => by
    cases h with
    | @tup a xs _ at_a items =>
      cases r
      obtain ⟨its, rel, ⟨o, e1, e2, n, e3⟩, _⟩ := I.tuple at_a
      exact .tup e1 e2 e3 (DatAll.rds I ds _ its items rel)
  | .dict ds, _, _, h, r => by
    cases h with
    | @dic a kvs _ at_a items =>
      cases r
      obtain ⟨_, far, vs, rel, o, es, ep, e1, e2, e3, _, pairs, _⟩ := (show ObjOk X.prog X.w H s.heap a (.dK kvs) from I.hok a _ at_a)
      obtain ⟨vals, names⟩ := DatKv.rds I ds kvs vs items rel
      obtain ⟨keys, same⟩ := keys_read (h := s.heap) pairs
      rw [← same] at vals
      rw [← names] at keys
      exact .dic far e1 e2.1 e3 keys vals
theorem DatAll.rds (I : Inv X pins σ H s) : ∀ (ds : List PyData) (vs : List V) (us : List Value), DatAll X.K H vs ds → Vals vs us → Rd2s s.heap us ds
  | [], _, _, h, r => by cases h; cases r; exact .nil
  | d :: ds, _, _, h, r => by
    cases h with
    | cons h1 h2 =>
      cases r with
      | cons r1 r2 => exact .cons (Dat.rds I d _ _ h1 r1) (DatAll.rds I ds _ _ h2 r2)
theorem DatKv.rds (I : Inv X pins σ H s) : ∀ (ds : List (PyData × PyData)) (kvs : List (Key × V)) (vs : List (Key × Value)), DatKv X.K H kvs ds → KV kvs vs →
    Rd2s s.heap (vs.map (·.2)) (ds.map (·.2)) ∧ ds.map (·.1) = vs.map fun q => keyD q.1
  | [], _, _, h, r => by cases h; cases r; exact ⟨.nil, rfl⟩
  | d :: ds, _, _, h, r => by
    cases h with
    | @cons k v kvs d1 _ h1 h2 =>
      cases r with
      | @cons _ b _ _ r1 r2 =>
        obtain ⟨q1, q2⟩ := DatKv.rds I ds _ _ h2 r2
        have e : k = b.1 := r1.1
        exact ⟨.cons (Dat.rds I d1 v b.2 h1 r1.2) q1, by simp only [List.map_cons, q2, e]⟩
end
end
end Vd

namespace Vd
open PySem PySem.Spec PyProof.Rows L2

/-! ### equal data are equal -/
section
variable {X : Cx} {pins : List (Addr × Obj)} {σ : L2.St} {H : Hp} {s : Shared}
/-- richCompare of the same data is True -/
def RcP (P : Program) (w : World) (A : Around) (s : Shared) (u v : Value) : Prop := ∀ E Q : Value → Shared → Prop, Q (.bool true) s → wpAny (model P w) A (richCompare .Eq u v) Q E s
def EqT (P : Program) (w : World) (A : Around) (s : Shared) (u v : Value) : Prop := SeqAt.EqP P w A s u v true
def EqTs (P : Program) (w : World) (A : Around) (s : Shared) (us vs : List Value) : Prop := us.length = vs.length ∧ ∀ j (p : j < us.length) (q : j < vs.length), EqT P w A s us[j] vs[j]
theorem EqTs.nil {P : Program} {w : World} {A : Around} {s : Shared} : EqTs P w A s [] [] := ⟨rfl, fun j p _ => absurd p (Nat.not_lt_zero j)⟩
theorem EqTs.cons {P : Program} {w : World} {A : Around} {s : Shared} {u v : Value} {us vs : List Value} (h : EqT P w A s u v) (r : EqTs P w A s us vs) : EqTs P w A s (u :: us) (v :: vs) := by
  refine ⟨congrArg (· + 1) r.1, fun j p q => ?_⟩
  cases j with
  | zero => exact h
  | succ j => exact r.2 j (Nat.lt_of_succ_lt_succ p) (Nat.lt_of_succ_lt_succ q)
theorem eq_of_rc {P : Program} {w : World} {A : Around} {s : Shared} {a b : Addr} (h : a ≠ b → RcP P w A s (.ref a) (.ref b)) : EqT P w A s (.ref a) (.ref b) := by
  by_cases e : a = b
  · subst e
    exact (SeqAt.EqAt.same _).eqP
  · exact SeqAt.eqP_refs e (h e)
def display : PyData → Bool
  | .list _ | .tuple _ | .dict _ => true
  | _ => false
theorem key_one {k k' : Key} (h : keyD k = keyD k') : k = k' := by
  cases k <;> cases k' <;> simp [keyD] at h <;> simp [h]
theorem DatKv.inv {K : PySem.W.Frag} {G : Hp} {kvs : List (Key × V)} {kd d : PyData} {ds : List (PyData × PyData)} (h : DatKv K G kvs ((kd, d) :: ds)) : ∃ k v r, kvs = (k, v) :: r ∧ kd = keyD k ∧ Dat K G v d ∧ DatKv K G r ds := by
  cases h with
  | cons a b => exact ⟨_, _, _, rfl, rfl, a, b⟩
/-- the keys of two dicts with the same data are the same -/
theorem kv_val {K : PySem.W.Frag} {G : Hp} : ∀ {ds : List (PyData × PyData)} {kvs ls : List (Key × V)}, DatKv K G kvs ds → DatKv K G ls ds → kvs.map (·.1) = ls.map (·.1)
  | [], _, _, h, h' => by cases h; cases h'; rfl
  | (kd, d) :: ds, _, _, h, h' => by
    obtain ⟨k, v, r, rfl, e, _, b⟩ := h.inv
    obtain ⟨k', v', r', rfl, e', _, b'⟩ := h'.inv
    rw [List.map_cons, List.map_cons, kv_val b b', key_one (e.symm.trans e')]
mutual
theorem Dat.eqT (I : Inv X pins σ H s) : ∀ (d : PyData) (A : Around) (x y : V) (u v : Value), A.units + d.depth < cLine → Dat X.K H x d → Dat X.K H y d → RelV x u → RelV y v → EqT X.prog X.w A s u v
  | .none, A, _, _, _, _, _, h, h', r, r' => by cases h; cases h'; exact (eqAt_same r r' rfl).eqP
  | .bool b, A, _, _, _, _, _, h, h', r, r' => by cases h; cases h'; exact (eqAt_same r r' rfl).eqP
  | .int i, A, _, _, _, _, _, h, h', r, r' => by cases h; cases h'; exact (eqAt_same r r' rfl).eqP
  | .str x, A, _, _, _, _, _, h, h', r, r' => by cases h; cases h'; exact (eqAt_same r r' rfl).eqP
  | .list ds, A, _, _, _, _, room, h, h', r, r' => by
    have rc := Dat.rcT I (.list ds) A _ _ _ _ room rfl h h' r r'
    cases h; cases h'; cases r; cases r'
    exact eq_of_rc fun _ => rc
  | .tuple ds, A, _, _, _, _, room, h, h', r, r' => by
    have rc := Dat.rcT I (.tuple ds) A _ _ _ _ room rfl h h' r r'
    cases h; cases h'; cases r; cases r'
    exact eq_of_rc fun _ => rc
  | .dict ds, A, _, _, _, _, room, h, h', r, r' => by
    have rc := Dat.rcT I (.dict ds) A _ _ _ _ room rfl h h' r r'
    cases h; cases h'; cases r; cases r'
    exact eq_of_rc fun _ => rc
theorem Dat.rcT (I : Inv X pins σ H s) : ∀ (d : PyData) (A : Around) (x y : V) (u v : Value), A.units + d.depth < cLine → display d = true →
    Dat X.K H x d → Dat X.K H y d → RelV x u → RelV y v → RcP X.prog X.w A s u v
  | .none, _, _, _, _, _, _, no, _, _, _, _ => nomatch no
  | .bool _, _, _, _, _, _, _, no, _, _, _, _ => nomatch no
  | .int _, _, _, _, _, _, _, no, _, _, _, _ => nomatch no
  | .str _, _, _, _, _, _, _, no, _, _, _, _ => nomatch no
  | .list ds, A, _, _, _, _, room, _, h, h', r, r' => by
    have room2 : A.units + (PyData.depthAll ds + 1) < cLine := room
    cases h with
    | lst p1 items =>
      cases h' with
      | lst p2 items' =>
        cases r; cases r'
        obtain ⟨us, r1, l1, _⟩ := I.list p1
        obtain ⟨vs, r2, l2, _⟩ := I.list p2
        obtain ⟨len, each⟩ := DatAll.eqTs I ds A.in1 _ _ us vs (by show A.units + 1 + _ < cLine; omega) items items' r1 r2
        intro E Q q
        refine SeqAt.rcP_lists (e := fun _ => true) l1.isList l2.isList (by simpa using len) (by omega) (fun j p q => ?_) E Q ?_
        · simpa [EqT] using each j (by simpa using p) (by simpa using q)
        · rw [List.all_eq_true.mpr fun _ _ => rfl]
          exact q
  | .tuple ds, A, _, _, _, _, room, _, h, h', r, r' => by
    have room2 : A.units + (PyData.depthAll ds + 1) < cLine := room
    cases h with
    | tup p1 items =>
      cases h' with
      | tup p2 items' =>
        cases r; cases r'
        obtain ⟨us, r1, ⟨o1, e1, c1, n1, d1⟩, _⟩ := I.tuple p1
        obtain ⟨vs, r2, ⟨o2, e2, c2, n2, d2⟩, _⟩ := I.tuple p2
        obtain ⟨len, each⟩ := DatAll.eqTs I ds A.in1 _ _ us vs (by show A.units + 1 + _ < cLine; omega) items items' r1 r2
        exact rcTup ⟨o1, e1, c1, n1, d1⟩ ⟨o2, e2, c2, n2, d2⟩ (by simpa using len) (by omega) fun j p q => by simpa [EqT] using each j (by simpa using p) (by simpa using q)
  | .dict ds, A, _, _, _, _, room, _, h, h', r, r' => by
    have room2 : A.units + (PyData.depthKv ds + 1) < cLine := room
    cases h with
    | @dic a kvs _ p1 items =>
      cases h' with
      | @dic b ls _ p2 items' =>
        cases r; cases r'
        obtain ⟨_, f1, us, r1, m1⟩ := (show ObjOk X.prog X.w H s.heap a (.dK kvs) from I.hok a _ p1)
        obtain ⟨_, f2, vs, r2, m2⟩ := (show ObjOk X.prog X.w H s.heap b (.dK ls) from I.hok b _ p2)
        have nd : (vs.map (·.1)).Nodup := by obtain ⟨_, _, _, _, _, _, _, _, z⟩ := m2; exact z
        have hits := DatKv.hits I ds A.in1 kvs ls us vs vs (by show A.units + 1 + _ < cLine; omega) items items' r1 r2 nd fun _ m => m
        have len : us.length = vs.length := by
          have e := congrArg List.length (kv_val items items')
          rw [List.length_map, List.length_map] at e
          have e1 := Paired.length r1
          have e2 := Paired.length r2
          omega
        intro E Q q
        refine PySem.W.rcP_dicts (knd := mixKind X.prog X.w) (r := true) f1 f2 m1 m2 (by omega) (fun _ => hits) E Q ?_
        rw [len]
        simpa using q
theorem DatAll.eqTs (I : Inv X pins σ H s) : ∀ (ds : List PyData) (A : Around) (xs ys : List V) (us vs : List Value), A.units + PyData.depthAll ds < cLine → DatAll X.K H xs ds → DatAll X.K H ys ds → Vals xs us → Vals ys vs → EqTs X.prog X.w A s us vs
  | [], _, _, _, _, _, _, h, h', r, r' => by cases h; cases h'; cases r; cases r'; exact .nil
  | d :: ds, A, _, _, _, _, room, h, h', r, r' => by
    have room2 : A.units + max d.depth (PyData.depthAll ds) < cLine := room
    have := Nat.le_max_left d.depth (PyData.depthAll ds)
    have := Nat.le_max_right d.depth (PyData.depthAll ds)
    cases h with
    | cons a b =>
      cases h' with
      | cons a' b' =>
        cases r with
        | cons r1 r2 =>
          cases r' with
          | cons r1' r2' => exact .cons (Dat.eqT I d A _ _ _ _ (by omega) a a' r1 r1') (DatAll.eqTs I ds A _ _ _ _ (by omega) b b' r2 r2')
theorem DatKv.hits (I : Inv X pins σ H s) : ∀ (ds : List (PyData × PyData)) (A : Around) (kvs ls : List (Key × V)) (us vs all : List (Key × Value)), A.units + PyData.depthKv ds < cLine → DatKv X.K H kvs ds → DatKv X.K H ls ds → KV kvs us → KV ls vs →
    (all.map (·.1)).Nodup → (∀ p ∈ vs, p ∈ all) → PySem.W.KeqHitsP X.prog X.w A s all us true
  | [], _, _, _, _, _, _, _, h, h', r, r', _, _ => by cases h; cases r; exact .nil
  | (kd, d) :: ds, A, _, _, _, _, all, room, h, h', r, r', nd, sub => by
    have room2 : A.units + max (max kd.depth d.depth) (PyData.depthKv ds) < cLine := room
    have l1 := Nat.le_max_left (max kd.depth d.depth) (PyData.depthKv ds)
    have l2 := Nat.le_max_right (max kd.depth d.depth) (PyData.depthKv ds)
    have l3 := Nat.le_max_right kd.depth d.depth
    obtain ⟨k, v, kvs, rfl, e0, a, b⟩ := h.inv
    obtain ⟨k', v', ls, rfl, e0', a', b'⟩ := h'.inv
    have e3 : k = k' := key_one (e0.symm.trans e0')
    cases r with
    | @cons _ q _ us r1 r2 =>
      cases r' with
      | @cons _ q' _ vs r1' r2' =>
            obtain ⟨qk, qv⟩ := q
            obtain ⟨qk', qv'⟩ := q'
            have e1 : k = qk := r1.1
            have e2 : k' = qk' := r1'.1
            subst e1 e2 e3
            have at_k : valueAt all k = some qv' := by
              have mem := sub (k, qv') (List.Mem.head _)
              unfold valueAt
              clear sub r1 r1' r2 r2'
              induction all with
              | nil => exact nomatch mem
              | cons p all ih =>
                have nd' : (p.1 :: all.map (·.1)).Nodup := nd
                rcases List.mem_cons.mp mem with e | m
                · subst e
                  simp
                · have ne : p.1 ≠ k := fun e => (List.nodup_cons.mp nd').1 (e ▸ List.mem_map_of_mem (f := (·.1)) m)
                  rw [List.find?_cons_of_neg (by simpa using ne)]
                  exact ih (List.nodup_cons.mp nd').2 m
            exact .hit (e := true) (b := true) at_k (Dat.eqT I d A _ _ _ _ (by omega) a a' r1.2 r1'.2) (DatKv.hits I ds A _ _ us vs all (by omega) b b' r2 r2' nd fun p m => sub p (List.Mem.tail _ m))
end
end
section
variable {X : Cx}
/-- x == y of the same data: True -/
theorem op_eqDat (room : X.A.units + 64 < cLine) : OpR X (compareOp .Eq) (fun x y H Q => ∃ d, Dat X.K H x d ∧ Dat X.K H y d ∧ d.depth ≤ 60 ∧ Q (.bl true) H) := by
  rintro pins s σ H x y u v Q I rx ry ⟨d, h1, h2, deep, q⟩
  have fin : EP X pins σ Q (.bool true) s := ⟨.bl true, H, I, rfl, q⟩
  have go : display d = true → wpAny (model X.prog X.w) X.A (compareOp .Eq u v) (EP X pins σ Q) X.xe s := fun kind => by
    exact Dat.rcT I d X.A x y u v (by omega) kind h1 h2 rx ry _ _ fin
  have flat : ∀ z : V, x = z → y = z → scal z z = true → wpAny (model X.prog X.w) X.A (compareOp .Eq u v) (EP X pins σ Q) X.xe s := fun z e1 e2 sc => by
    subst e1
    subst e2
    exact op_eq pins s σ H _ _ u v Q I rx ry ⟨sc, by simpa using q⟩
  cases d with
  | none => cases h1; cases h2; exact flat _ rfl rfl rfl
  | bool b => cases h1; cases h2; exact flat _ rfl rfl rfl
  | int i => cases h1; cases h2; exact flat _ rfl rfl rfl
  | str x => cases h1; cases h2; exact flat _ rfl rfl rfl
  | list ds => exact go rfl
  | tuple ds => exact go rfl
  | dict ds => exact go rfl
/-- repr(x) -/
theorem call_reprD (room : X.A.units + 64 < cLine) (guards : X.A.guards = some []) : CallR X (.builtin "repr") (fun xs H Q => ∃ x d, xs = [x] ∧ Dat X.K H x d ∧ Shows d ∧ d.depth ≤ 60 ∧ Q (.str d.shown) H) := by
  rintro pins s σ H xs us Q I r ⟨x, d, rfl, h, z, deep, q⟩
  obtain ⟨u, rfl, rx⟩ := vals1 r
  exact reprRun (Dat.rds I d x u h rx) z guards (by omega) fun h' t tk kept => ⟨.str d.shown, H, I.kept (t' := tk) kept, ⟨t, rfl⟩, q⟩
/-- xs[i] in an augmented assignment -/
theorem get_list : PGet X (rIxL X.K) := by
  rintro pins s σ H x y v u Q I rx ry ⟨p, xs, i, z, rfl, rfl, hq, he, q⟩
  cases rx
  obtain ⟨t, rfl⟩ := ry
  obtain ⟨its, r, pl, hz⟩ := I.list hq
  obtain ⟨j, h1, h2, h3, h4, h5⟩ := atI_get he
  obtain ⟨w, ew, rw'⟩ := r.get h2
  have len := r.length
  have wide := line63
  have fin : EP X pins σ Q w s := ⟨z, H, I, rw', q⟩
  by_cases up : 0 ≤ i
  · rw [seqIndex_of up h5] at h1
    cases h1
    exact wpAny_getItem_list pl.isList up (by omega) (by simpa using ew) fin
  · rw [seqIndex_neg (by omega) h4] at h1
    have e := Option.some.inj h1
    rw [len] at e
    exact wpAny_getItem_list_neg pl.isList (by omega) (by rw [List.size_toArray] <;> omega) (by omega) (by rw [List.size_toArray, e]; simpa using ew) fin
end
end Vd

namespace Vd
open PySem PySem.Spec PyProof.Rows L2

/-! ### how long what is shown can be -/
def signsOk (x : Str) : Bool := x.cps.toList.all fun c => decide (c < 16 ^ 8)
mutual
def wgt : PyData → Nat
  | .none => 4
  | .bool _ => 5
  | .int _ => 1921
  | .str x => 10 * x.length + 2
  | .list xs => wgts xs + 2
  | .tuple xs => wgts xs + 4
  | .dict kvs => wgtk kvs + 2
def wgts : List PyData → Nat
  | [] => 0
  | x :: xs => wgt x + 2 + wgts xs
def wgtk : List (PyData × PyData) → Nat
  | [] => 0
  | (k, v) :: r => wgt k + wgt v + 4 + wgtk r
end
mutual
def nice : PyData → Bool
  | .none => true
  | .bool _ => true
  | .int i => decide (i.natAbs.log2 < 1920)
  | .str x => signsOk x
  | .list xs => nices xs
  | .tuple xs => nices xs
  | .dict kvs => nicek kvs
def nices : List PyData → Bool
  | [] => true
  | x :: xs => nice x && nices xs
def nicek : List (PyData × PyData) → Bool
  | [] => true
  | (k, v) :: r => nice k && nice v && nicek r
end
/-- texts, joined by two signs each -/
def sums (ts : List Str) : Nat := (ts.map fun t => t.length + 2).sum
theorem sums_cons (t : Str) (ts : List Str) : sums (t :: ts) = t.length + 2 + sums ts := by simp [sums]
theorem two_signs (k : Nat) : (if k > 0 then ", " else "" : Str).length ≤ 2 := by
  split <;> decide
theorem from_le : ∀ (ts : List Str) (k : Nat) (acc : Str), (textFrom k acc ts).length ≤ acc.length + sums ts
  | [], k, acc => Nat.le_add_right _ _
  | t :: ts, k, acc => by
    have ih := from_le ts (k + 1) (acc ++ (if k > 0 then ", " else "" : String) ++ t)
    rw [strLen_append, strLen_append] at ih
    rw [sums_cons]
    have two : (Str.ofString (if k > 0 then ", " else "")).length ≤ 2 := by split <;> decide
    unfold textFrom
    omega
theorem join_le : ∀ ts : List Str, (Str.join ", " ts).length ≤ sums ts
  | [] => Nat.zero_le _
  | [x] => by show x.length ≤ _; rw [sums_cons]; omega
  | x :: y :: r => by
    have ih := join_le (y :: r)
    show (x ++ (", " : Str) ++ Str.join ", " (y :: r)).length ≤ _
    rw [strLen_append, strLen_append, sums_cons]
    have two : (Str.ofString ", ").length = 2 := by decide
    omega
theorem list_le (ts : List Str) : (listText ts).length ≤ sums ts + 2 := by
  unfold listText
  rw [strLen_append]
  have h := from_le ts 0 "["
  have e1 : (Str.ofString "[").length = 1 := by decide
  have e2 : (Str.ofString "]").length = 1 := by decide
  omega
theorem tup_le (ts : List Str) : (tupleText ts).length ≤ sums ts + 4 := by
  unfold tupleText
  rw [strLen_append, strLen_append]
  have h := join_le ts
  have e1 : (Str.ofString "(").length = 1 := by decide
  have e2 : (Str.ofString (if (ts.length == 1) = true then ",)" else ")")).length ≤ 2 := by split <;> decide
  omega
theorem dict_le (ts : List Str) : (dictText ts).length ≤ sums ts + 2 := by
  unfold dictText
  rw [strLen_append, strLen_append]
  have h := join_le ts
  have e1 : (Str.ofString "{").length = 1 := by decide
  have e2 : (Str.ofString "}").length = 1 := by decide
  omega
mutual
theorem shown_le : ∀ d : PyData, nice d = true → d.shown.length ≤ wgt d
  | .none, _ => by simp only [PyData.shown, wgt]; decide
  | .bool b, _ => by simp only [PyData.shown, wgt]; cases b <;> decide
  | .int i, h => by simp only [PyData.shown, wgt]; exact int_text_len_1921 (of_decide_eq_true (by simpa [nice] using h))
  | .str x, h => by
    simp only [PyData.shown, wgt]
    refine StrLaws.reprText_len x fun c m => ?_
    have all : signsOk x = true := by simpa [nice] using h
    exact of_decide_eq_true (List.all_eq_true.mp all c m)
  | .list xs, h => by
    have ih := showns_le xs (by simpa [nice] using h)
    simp only [PyData.shown, wgt]
    exact Nat.le_trans (list_le _) (Nat.add_le_add_right ih 2)
  | .tuple xs, h => by
    have ih := showns_le xs (by simpa [nice] using h)
    simp only [PyData.shown, wgt]
    exact Nat.le_trans (tup_le _) (Nat.add_le_add_right ih 4)
  | .dict kvs, h => by
    have ih := shownk_le kvs (by simpa [nice] using h)
    simp only [PyData.shown, wgt]
    exact Nat.le_trans (dict_le _) (Nat.add_le_add_right ih 2)
theorem showns_le : ∀ ds : List PyData, nices ds = true → sums (PyData.shownAll ds) ≤ wgts ds
  | [], _ => by simp [PyData.shownAll, sums]
  | d :: ds, h => by
    have h' : nice d = true ∧ nices ds = true := by simpa [nices] using h
    have a := shown_le d h'.1
    have b := showns_le ds h'.2
    simp only [PyData.shownAll, wgts, sums_cons]
    omega
theorem shownk_le : ∀ ds : List (PyData × PyData), nicek ds = true → sums (PyData.shownKv ds) ≤ wgtk ds
  | [], _ => by simp [PyData.shownKv, sums]
  | (k, v) :: ds, h => by
    have h' : (nice k = true ∧ nice v = true) ∧ nicek ds = true := by simpa [nicek] using h
    have a := shown_le k h'.1.1
    have b := shown_le v h'.1.2
    have c := shownk_le ds h'.2
    have e : (Str.ofString ": ").length = 2 := by decide
    simp only [PyData.shownKv, wgtk, sums_cons]
    rw [strLen_append, strLen_append]
    omega
end
mutual
theorem showable_of : ∀ d : PyData, nice d = true → d.showable = true
  | .none, _ => rfl
  | .bool _, _ => rfl
  | .int i, h => by simpa [nice, PyData.showable] using h
  | .str _, _ => rfl
  | .list xs, h => by simpa [PyData.showable] using showables_of xs (by simpa [nice] using h)
  | .tuple xs, h => by simpa [PyData.showable] using showables_of xs (by simpa [nice] using h)
  | .dict kvs, h => by simpa [PyData.showable] using showablek_of kvs (by simpa [nice] using h)
theorem showables_of : ∀ ds : List PyData, nices ds = true → PyData.showableAll ds = true
  | [], _ => rfl
  | d :: ds, h => by
    have h' : nice d = true ∧ nices ds = true := by simpa [nices] using h
    simp [PyData.showableAll, showable_of d h'.1, showables_of ds h'.2]
theorem showablek_of : ∀ ds : List (PyData × PyData), nicek ds = true → PyData.showableKv ds = true
  | [], _ => rfl
  | (k, v) :: ds, h => by
    have h' : (nice k = true ∧ nice v = true) ∧ nicek ds = true := by simpa [nicek] using h
    simp [PyData.showableKv, showable_of k h'.1.1, showable_of v h'.1.2, showablek_of ds h'.2]
end
theorem Shows.of {d : PyData} (h : nice d = true) (low : wgt d ≤ 10000000) : Shows d :=
  ⟨showable_of d h, Nat.le_trans (shown_le d h) (Nat.le_trans low (by rw [sizeLine_eq]; decide))⟩

/-! ### data where the heap grows -/
theorem Rd.up {H H' : Hp} (e : ∀ p o, H p = some o → H' p = some o) {a : Addr} {u : HO} (h : Rd H a u) : Rd H' a u := by
  rcases h with h | ⟨o, h⟩
  · exact .inl (e _ _ h)
  · exact .inr ⟨o, e _ _ h⟩
theorem sql_up {K : PySem.W.Frag} {H H' : Hp} (e : ∀ p o, H p = some o → H' p = some o) {a : Addr} {xs : List V} (h : SqL K H a xs) : SqL K H' a xs := by
  rcases h with h | h
  · exact .inl (Rd.up e h)
  · exact .inr h
theorem sqt_up {K : PySem.W.Frag} {H H' : Hp} (e : ∀ p o, H p = some o → H' p = some o) {a : Addr} {xs : List V} (h : SqT K H a xs) : SqT K H' a xs := by
  rcases h with h | h
  · exact .inl (Rd.up e h)
  · exact .inr h
mutual
theorem Dat.up {K : PySem.W.Frag} {H H' : Hp} (e : ∀ p o, H p = some o → H' p = some o) : ∀ {v : V} {d : PyData}, Dat K H v d → Dat K H' v d
  | _, _, .non => .non
  | _, _, .bl b => .bl b
  | _, _, .int i => .int i
  | _, _, .str x => .str x
  | _, _, .lst a b => .lst (sql_up e a) (DatAll.up e b)
  | _, _, .tup a b => .tup (sqt_up e a) (DatAll.up e b)
  | _, _, .dic a b => .dic (e _ _ a) (DatKv.up e b)
theorem DatAll.up {K : PySem.W.Frag} {H H' : Hp} (e : ∀ p o, H p = some o → H' p = some o) : ∀ {vs : List V} {ds : List PyData}, DatAll K H vs ds → DatAll K H' vs ds
  | _, _, .nil => .nil
  | _, _, .cons a b => .cons (Dat.up e a) (DatAll.up e b)
theorem DatKv.up {K : PySem.W.Frag} {H H' : Hp} (e : ∀ p o, H p = some o → H' p = some o) : ∀ {vs : List (Key × V)} {ds : List (PyData × PyData)}, DatKv K H vs ds → DatKv K H' vs ds
  | _, _, .nil => .nil
  | _, _, .cons a b => .cons (Dat.up e a) (DatKv.up e b)
end
theorem DatAll.snoc {K : PySem.W.Frag} {H : Hp} {v : V} {d : PyData} (h : Dat K H v d) : ∀ {vs : List V} {ds : List PyData}, DatAll K H vs ds → DatAll K H (vs ++ [v]) (ds ++ [d])
  | _, _, .nil => .cons h .nil
  | _, _, .cons a b => .cons a (DatAll.snoc h b)
end Vd

namespace Vd
open PySem PySem.Spec PyProof.Rows L2

/-! ### errors as values: made, asked for their class, their fields read -/
section
variable {X : Cx} {e : Expr} {es : List Expr} {ta : TA} {p pos : Pos}
/-- C(e, ..), an own exception class with an own __init__; the error is a value -/
theorem pe_mkx {x : Str} {C fI : Addr} {k : Nat} {fd : FuncData} {ps : List Str} {sp : Sp} (T : OexC X.K C) (at_init : PySem.W.findIn X.K (.ref C) "__init__" = some (some (.ref fI))) (is_fn : PySem.W.typeIn X.K (.ref fI) = some (.type "function"))
    (ini : FnOk X.prog X.w X.K X.mg X.base CX0 k fI fd ps sp) (room : Room (k + 1) X.A) (bind : Binds X.K fd ps []) (hg : Gl X x) (hm : X.mg x = some (.ref C)) (ha : PA X (e :: es) ta)
    (nd : (x == ("__debug__" : Str)) = false := by decide) (he : starEach (e :: es) X.env = (false, eval e X.env) :: starEach es X.env := by rfl) (hp : (backTo pos (starEach es X.env)).any (·.1) = false := by rfl) :
    PE X (.Call (.Name x p) (e :: es) [] pos) (fun σ H Q => ta σ H fun vs H1 => vs.length ≤ 1000 ∧ ∀ a, H1 a = none → sp (.ref a :: vs) (upd H1 a (exo a C none)) (fun v H2 => v = .non ∧ Q (.ref a) H2) E0) := by
  constructor
  intro pins s σ H Q I h
  obtain ⟨nm, qn, N, bs, bm, sn, sub, ab, col, dd, k0, k1, k2, k3, k5, at_C, chain⟩ := T.cls
  refine wpAny_Call_Name_kw (ld_glob I hg hm ?_ nd)
  refine PySem.W.callWith_K (h₀ := X.base) I.ok.mod.kin T.kC (thn (ha.run pos pins s σ H _ I h) ?_) he hp
  rintro us s1 ⟨vs, H1, I1, rel, few, each⟩
  refine ⟨I1.kIn, ?_⟩
  show wpAny _ _ (call (.ref C) us) _ _ _
  obtain ⟨hp1, g, dr, tk, os⟩ := s1
  have none1 : H1 (hp1.objs.size + 1) = none := I1.hok.fresh (Nat.le_succ _)
  have prom := each (hp1.objs.size + 1) none1
  have J : Inv X pins σ (upd H1 (hp1.objs.size + 1) (exo (hp1.objs.size + 1) C none)) ⟨(hp1.push (PySem.W.kdv_tup us)).push (PySem.HandSPX.excO C hp1.objs.size), g, dr, tk, os⟩ :=
    I1.laid (t' := tk) (fun b o q => Heap.get?_push_of_some _ (Heap.get?_push_of_some _ q)) (Nat.le_succ _) (exo_ok (t1 := hp1.objs.size) (by heap_get))
  have rel2 : Vals (V.ref (hp1.objs.size + 1) :: vs) (Value.ref (hp1.objs.size + 1) :: us) := .cons rfl rel
  have len : (Value.ref (hp1.objs.size + 1) :: us).length = ps.length := by rw [← rel2.length]; exact ini.len _ _ _ _ prom
  have binds := bind ⟨(hp1.push (PySem.W.kdv_tup us)).push (PySem.HandSPX.excO C hp1.objs.size), g, dr, tk, os⟩ (Value.ref (hp1.objs.size + 1) :: us) J.kIn (by rw [List.append_nil]; exact len)
  rw [List.append_nil] at binds
  have line : us.length ≤ sizeLine := by rw [← Paired.length rel, sizeLine_eq]; omega
  refine wpAny_call (PySem.HandSPX.call_own PySem.F.excBase_ValueError (fun Y => PySem.HandSPX.refsVE_contains Y bm chain) (I1.kIn _ _ at_C) (PySem.W.looks_findIn I1.kIn at_init) (fun self => PySem.W.bind_fn I1.kIn self is_fn) line
    (codeAny_mono (ini.run _ X.stack _ _ ⟨Value.ref (hp1.objs.size + 1) :: us, []⟩ _ _ _ E0 (room.make C us []) (J.env0.make C us []) binds rel2 prom) fun r s2 got => ?_))
  match r, got with
  | .ok (.ret u), got =>
    obtain ⟨v, H2, J2, rv, ev, q⟩ := J.after got
    subst ev
    exact ⟨rv, V.ref (hp1.objs.size + 1), H2, J2, rfl, q⟩
  | .ok .next, no => exact no.elim
  | .ok .brk, no => exact no.elim
  | .ok .cont, no => exact no.elim
  | .error _, no => exact no.elim

/-- what isinstance and a read of a field ask of an own exception class -/
structure XC (K : PySem.W.Frag) (C : Addr) : Prop where
  cl : (PySem.W.clsIn K C).isSome = true
  ga : PySem.W.findIn K (.ref C) "__getattribute__" = some (some (.builtin "BaseException.__getattribute__"))
  gt : PySem.W.findIn K (.ref C) "__getattr__" = some none
  sub : PySem.W.subIn K (.ref C) (.type "BaseException") = some true
  ca : PySem.W.findIn K (.ref C) "__class__" = some (some (.builtin "object.__class__"))
  sp : PySem.W.specialIn K (.builtin "object.__class__") "__get__" = some (some (.builtin "getset_descriptor.__get__"))
  tk : PySem.W.takesIn K (.builtin "object.__class__") = some true
  mo : PySem.W.mroIn K C (.type "object") = some true
  hd : PySem.W.hasDictIn K C = true
/-- an error of the class C stands at a -/
def ErrAt (H : Hp) (a C : Addr) : Prop := H a = some (exo a C none) ∨ ∃ d fs, H a = some (exo a C (some d)) ∧ H d = some (exd d fs)
theorem err_inst {pins : List (Addr × Obj)} {σ : L2.St} {H : Hp} {s : Shared} {a C : Addr} (I : Inv X pins σ H s) (h : ErrAt H a C) : ∃ ox od, PySem.W.InstAt s.heap a ox C od := by
  rcases h with h | ⟨d, fs, h, hd⟩
  · obtain ⟨t1, at_a⟩ := exo_at I.hok h
    exact ⟨_, none, at_a, rfl, rfl, True.intro⟩
  · obtain ⟨t1, at_a⟩ := exo_at I.hok h
    obtain ⟨mA, ⟨o, _, _, at_d, _⟩, _⟩ := exd_at I.hok hd
    exact ⟨_, some o, at_a, rfl, rfl, at_d⟩
/-- isinstance(error, c) -/
theorem call_isX : CallR X (.builtin "isinstance") (fun xs H Q => ∃ (a C : Addr) (c : V) (cv : Value) (b : Bool), xs = [.ref a, c] ∧ XC X.K C ∧ ErrAt H a C ∧ (∀ u, RelV c u → u = cv) ∧ PySem.W.kitOne X.K (.ref C) cv = some b ∧ Q (.bl b) H) := by
  rintro pins s σ H xs us Q I r ⟨a, C, c, cv, b, rfl, T, err, one, kit, q⟩
  obtain ⟨u1, u2, rfl, r1, r2⟩ := vals2 r
  cases (show u1 = Value.ref a from r1)
  cases one u2 r2
  obtain ⟨ox, od, J⟩ := err_inst I err
  exact PySem.W.kia_one (PySem.W.kitx_exc T.cl T.ga T.gt T.sub T.ca T.sp T.tk T.mo) I.kIn J kit (fun no => nomatch no) fun tk => ⟨.bl b, H, I.tok tk, rfl, q⟩
/-- error.f -/
theorem pe_xfv {f : Str} {te : TE} (he : PE X e te) (hb : attributeBase e f X.env (eval e X.env) = eval e X.env := by rfl) :
    PE X (.Attribute e f pos) (fun σ H Q => te σ H fun x H1 => ∃ (a C d : Addr) (fs : List (Str × V)) (v : V), x = .ref a ∧ XC X.K C ∧ PySem.W.findIn X.K (.ref C) f = some none ∧ H1 a = some (exo a C (some d)) ∧ H1 d = some (exd d fs) ∧ fs.lookup f = some v ∧ Q v H1) := by
  constructor
  intro pins s σ H Q I h
  refine attr_of hb (thn (he.run pins s σ H _ I h) ?_)
  rintro u s1 ⟨x, H1, I1, rx, a, C, d, fs, v, rfl, T, no, at_a, at_d, look, q⟩
  cases (show u = Value.ref a from rx)
  obtain ⟨t1, e1⟩ := exo_at I1.hok at_a
  obtain ⟨mA, ns, each⟩ := exd_at I1.hok at_d
  obtain ⟨od, e2, looks⟩ := lookIn_ns ns
  obtain ⟨u, hu, ru⟩ := RelO.some_of (v := v) (o := mA f) (by rw [← look]; exact each f)
  have J : PySem.W.InstAt s1.heap a _ C (some od) := ⟨e1, rfl, rfl, e2⟩
  exact PySem.HandSPX.exc_get I1.kIn J T.ga T.gt T.sub (PySem.W.findObj_own T.hd no rfl (by rw [looks, hu])) (handed_of ru) ⟨v, H1, I1.tok _, ru, q⟩
end
end Vd

namespace Vd
open PySem PySem.Spec PyProof.Rows L2

/-! ### super().__init__() in an own error's __init__ -/
section
open PySem.W PySem.Calls
/-- def __init__(self): super().__init__() -/
def suBody (p0 p1 p2 p3 p4 : Pos) : List Stmt := [.Expr (.Call (.Attribute (.Call (.Name "super" p0) [] [] p1) "__init__" p2) [] [] p3) p4]
def suScope : Scope := { kind := .function, names := [(PySem.Str.ofString "self", .local), (PySem.Str.ofString "__class__", .free), (PySem.Str.ofString "super", .globalImplicit)], isGenerator := false, isCoroutine := false, more := [] }
def suArgs (p : Pos) : Arguments := { posonlyargs := [], args := [{ arg := "self", annotation := none, pos := p }], vararg := none, kwonlyargs := [], kw_defaults := [], kwarg := none, defaults := [] }
/-- how the method call super().__init__() is evaluated, at its place in the text -/
def SuCall (p0 p1 p2 p3 : Pos) : Prop := ∃ pl : Sem Bool, ∀ env : Env, eval (.Call (.Attribute (.Call (.Name "super" p0) [] [] p1) "__init__" p2) [] [] p3) env = (do
      let ov ← attributeBase (.Call (.Name "super" p0) [] [] p1) "__init__" env (eval (.Call (.Name "super" p0) [] [] p1) env)
      standAt p2.atName
      let (f, first) ← holding [ov] (getMethod ov "__init__" pl)
      callWith p3 f first (backTo p3 (starEach [] env)) [])
/-- what the written part says of such a class, at C, and its __init__ -/
structure SuC (P : Program) (K : Frag) (mg : Str → Option Value) (C fI : Addr) : Prop where
  oex : OexC K C
  init : findIn K (.ref C) "__init__" = some (some (.ref fI))
  isf : typeIn K (.ref fI) = some (.type "function")
  sup : mg "super" = none
  nos : nsIn K cStatics "thirdparty.any" = some none
  along : ks_superIn K C C "__init__" = some (some (.builtin "ValueError.__init__"))
  ve : subIn K (.ref C) (.type "ValueError") = some true
  own : mroIn K C (.ref C) = some true
  some_cls : (clsIn K C).isSome = true
  def_ : ∃ (qual : Str) (oc : Value) (od an : Option Addr) (kV doc pm ct : Value) (osl : Array (Option Value)) (cda cc : Addr) (pA p0 p1 p2 p3 p4 : Pos),
    SuCall p0 p1 p2 p3 ∧ K.lookup fI = some ⟨oc, od, .func (ksFn "__init__" qual (suArgs pA) (suBody p0 p1 p2 p3 p4) suScope .none kV doc pm an (.ref cda) ct cc), osl⟩ ∧ codeIn K (.ref cda) qual = true ∧
    (∃ (ccl : Value) (cdd : Option Addr) (vs : Array Value) (ccs : Array (Option Value)) (file : Str) (tf : Tok), K.lookup cda = some ⟨ccl, cdd, .fields vs, ccs⟩ ∧ vs[2]? = some (.str file tf) ∧ ((P.main.file : Str) == file) = true) ∧
    ∃ (cl : Value) (cld : Option Addr) (csl : Array (Option Value)), K.lookup cc = some ⟨cl, cld, .cell (some (.ref C)), csl⟩
  top : (P.main.scope.names.lookup ("super" : Str)).isSome = false
variable {prog : Program} {w : World} {A : Around} {R : Result → Shared → Prop} {s : Shared} {K : Frag} {mg : Str → Option Value} {C fI x t0 : Addr}
/-- ValueError.__init__ bound to an error, called without arguments -/
theorem call_bound {E : Value → Shared → Prop} {h : Heap} {g : Array GenState} {d : Drawn} {t : Nat} {os : OsState} {u : Addr} {Q : Value → Shared → Prop} {nm q : Str} {N : Addr} {bs bm : List Value} {hdct : Bool} {sn : List Str} {sub : List Value} {ab : Bool} {col : Option Bool} {dd : Option Addr} {k0 k1 k2 k3 k5 : Option Value}
    (at_C : h.get? C = some (excClassObj nm q C N bs bm hdct sn sub ab col dd k0 k1 k2 k3 k5 "ValueError.__new__")) (at_x : h.get? x = some (HandSPX.excO C t0)) (at_u : h.get? u = some (kxs_mw "ValueError.__init__" x))
    (hq : ∀ h' t1, (∀ b o, b ≠ x → h.get? b = some o → h'.get? b = some o) → h'.get? x = some (HandSPX.excO C t1) → Q .none ⟨h', g, d, t, os⟩) :
    wpAny (model prog w) A (call (.ref u) []) Q E ⟨h, g, d, t, os⟩ := by
  refine wpAny_call (codeAny_of_tree ?_)
  show wpAny _ A.in1 (callAny (.ref u) ⟨[], []⟩) _ _ _
  unfold callAny
  refine wpAny_bind (wpAny_load at_u ?_)
  have kind : (Value.type "method-wrapper" == Value.type "method" || Value.type "method-wrapper" == Value.type "builtin_function_or_method" || Value.type "method-wrapper" == Value.type "method-wrapper") = true := by decide
  simp only [kxs_mw, kind, if_true]
  refine KFB.if_so (by decide) ?_
  refine wpAny_bind (check_bound_init PySem.F.excBase_ValueError.toExcCallFacts at_C at_x rfl ?_)
  refine wpAny_bind (wpAny_pure (wpAny_pure ⟨plainId_quiet PySem.F.excBase_ValueError.init.plain _, codeAny_builtin PySem.F.excBase_ValueError.initEntry ?_⟩))
  exact exc_init_tree (cls := .ref C) (t0 := t0) (dv := none) (c2 := .none) (c3 := .none) (b4 := .bool false) at_x (Nat.zero_le _) fun h' keep at_x' _ => hq h' _ keep at_x'
theorem super_init (T : SuC prog K mg C fI) (X : K.In s.heap) (G : s.heap.Ns mainGlobals mg) (B : ∃ mb, s.heap.Ns builtinsNs mb ∧ ∀ y : Str, y ≠ "__name__" → mb y = bootBuiltins y) (lim : s.heap.NoLimit) (room : A.depth < recursionLimit)
    (at_x : s.heap.get? x = some (HandSPX.excO C t0)) (hq : ∀ h' t1 tk, (∀ b o, b ≠ x → s.heap.get? b = some o → h'.get? b = some o) → h'.get? x = some (HandSPX.excO C t1) → R (.ok (.ret .none)) { s with heap := h', toks := tk }) :
    codeAny (model prog w) A (.call (.ref fI) ⟨[.ref x], []⟩) R s := by
  obtain ⟨qual, oc, od, an, kV, doc, pm, ct, osl, cda, cc, pA, p0, p1, p2, p3, p4, ⟨pl, how⟩, at_f, code, ⟨ccl, cdd, vs, ccs, file, tf, at_c, at2, same⟩, cl, cld, csl, at_cc⟩ := T.def_
  obtain ⟨nm, qn, N, bs, bm, sn, sub, ab, col, dd, k0, k1, k2, k3, k5, at_C, chain⟩ := T.oex.cls
  obtain ⟨cd, hcd⟩ := Option.isSome_iff_exists.mp T.some_cls
  obtain ⟨mb, Bn, Bv⟩ := B
  refine ks_codeAny_call_defAt (binds := [("self", .ref x)]) room (X _ _ at_f) rfl lim (codeRec_of X code) rfl (BindsTo.of_eq rfl) (show ∀ y ∈ suScope.names, y.2 ≠ .cell by decide) (by intro y hy; cases List.mem_singleton.mp hy; rfl) fun h1 ns keep => ?_
  have X1 : K.In h1 := X.keeps keep
  have G1 := G.keeps keep
  have B1 := Bn.keeps keep
  obtain ⟨hp, g, d, t, os⟩ := s
  have at_x1 := keep _ _ at_x
  refine ks_wpAt_execs_cons (ks_wpAt_Expr_any (ks_wpAt_MethodCall (pl := pl) ?_ (how _)))
  refine ks_wpAt_super_base rfl rfl (by decide) rfl (X1 _ _ at_f) rfl (by rfl) rfl (X1 _ _ at_c) rfl at2 same T.top ?_
  refine ks_loadName_global rfl rfl (loadGlobal_builtin G1 T.sup B1 ((Bv _ (by decide +kernel)).trans (show bootBuiltins "super" = some (.type "super") from PyProof.Rows.Boot.«super»)) ⟨rfl, ?_⟩)
  refine wpAny_loadName_free rfl rfl rfl ⟨_, X1 _ _ at_cc, rfl⟩ ?_
  refine wpAny_loadName_local rfl rfl ns rfl ?_
  refine ks_wpAny_isType_cls (X1 _ _ at_C) rfl ⟨rfl, ?_⟩
  refine ks_wpAny_call_super (X1 _ _ at_C) rfl at_x1 rfl (fun c no => nomatch no) (looks_mroIn X1 T.own) fun h2 at_so keep2 => ?_
  have X2 : K.In h2 := X1.keeps keep2
  have at_x2 := keep2 _ _ at_x1
  have J : InstAt h2 x (HandSPX.excO C t0) C none := ⟨at_x2, rfl, rfl, True.intro⟩
  have ss := T.along
  unfold ks_superIn at ss
  rw [hcd] at ss
  refine kxs_getMethod kxs_ValueError at_so (looks_opaque X2 T.nos) (l₀ := cd.mro) (fun A' Q' E' s' k q => wpAny_bind ((looks_clsIn X2 hcd) A' _ E' s' k (wpAny_pure q))) rfl X2 ss (J.type.andThen (looks_subIn X2 T.ve)) (ks_ne X2 J hcd) (by decide) ?_
  have at_u : (h2.push (kxs_mw "ValueError.__init__" x)).get? h2.objs.size = some (kxs_mw "ValueError.__init__" x) := Heap.get?_push_at rfl rfl
  refine kxs_callWith (i := "ValueError.__init__") (x := x) rfl (evalArgs_empty ⟨at_u, ?_⟩)
  refine call_bound (Heap.get?_push_of_some _ (X2 _ _ at_C)) (Heap.get?_push_of_some _ at_x2) at_u fun h3 t1 keep3 at_x3 => ?_
  refine wpAt_of_wpAny (wpAny_execs_nil ?_)
  exact hq h3 t1 _ (fun b o ne e => keep3 b o ne (Heap.get?_push_of_some _ (keep2 _ _ (keep _ _ e)))) at_x3
end

section
variable {X : Cx} {p pos : Pos}
/-- C(), an own exception class whose __init__ only calls the one above -/
theorem pe_mks {x : Str} {C fI : Addr} {k : Nat} (T : SuC X.prog X.K X.mg C fI) (room : Room (k + 1) X.A) (hg : Gl X x) (hm : X.mg x = some (.ref C)) (nd : (x == ("__debug__" : Str)) = false := by decide) :
    PE X (.Call (.Name x p) [] [] pos) (fun _ H Q => ∀ a, H a = none → Q (.ref a) (upd H a (exo a C none))) := by
  constructor
  intro pins s σ H Q I h
  obtain ⟨nm, qn, N, bs, bm, sn, sub, ab, col, dd, k0, k1, k2, k3, k5, at_C, chain⟩ := T.oex.cls
  refine wpAny_Call_Name_kw (ld_glob I hg hm ?_ nd)
  refine PySem.W.callWith_K0 I.kIn T.oex.kC ?_
  show wpAny _ _ (call (.ref C) []) _ _ _
  obtain ⟨hp, g, dr, tk, os⟩ := s
  have none1 : H (hp.objs.size + 1) = none := I.hok.fresh (Nat.le_succ _)
  have fin := h (hp.objs.size + 1) none1
  have J : Inv X pins σ (upd H (hp.objs.size + 1) (exo (hp.objs.size + 1) C none)) ⟨(hp.push (PySem.W.kdv_tup [])).push (PySem.HandSPX.excO C hp.objs.size), g, dr, tk, os⟩ :=
    I.laid (t' := tk) (fun b o q => Heap.get?_push_of_some _ (Heap.get?_push_of_some _ q)) (Nat.le_succ _) (exo_ok (t1 := hp.objs.size) (by heap_get))
  have deep := (room.make C [] []).depth
  refine wpAny_call (PySem.HandSPX.call_own PySem.F.excBase_ValueError (fun Y => PySem.HandSPX.refsVE_contains Y bm chain) (I.kIn _ _ at_C) (PySem.W.looks_findIn I.kIn T.init) (fun self => PySem.W.bind_fn I.kIn self T.isf) (Nat.zero_le _)
    (super_init (t0 := hp.objs.size) T J.kIn (J.mod.glob.keeps J.bk) ?_ J.nolimit deep (by heap_get) fun h' t1 tk' keep at_x => ?_))
  · obtain ⟨mb, b1, b2⟩ := J.mod.blt
    exact ⟨mb, b1.keeps J.bk, b2⟩
  · have J2 := J.write (t' := tk') (x := hp.objs.size + 1) (e := hp.objs.size + 1) (o := exo (hp.objs.size + 1) C none) (by rw [upd_same]; exact True.intro) (.inl rfl) keep ⟨_, at_x⟩ (exo_ok at_x)
    rw [upd_upd] at J2
    exact ⟨rfl, V.ref (hp.objs.size + 1), _, J2, rfl, fin⟩
end
end Vd

namespace Vd
open PySem PySem.Spec PyProof.Rows L2

/-! ### data that an expression makes anew -/
/-- F is a part of G, none of which stood in H -/
def Sub (F H G : Hp) : Prop := ∀ p o, F p = some o → H p = none ∧ G p = some o
def newP (H G : Hp) : Hp := fun p => if (H p).isNone then G p else none
theorem newP_sub (H G : Hp) : Sub (newP H G) H G := fun p o e => by
  unfold newP at e
  split at e
  · rename_i h
    exact ⟨Option.isNone_iff_eq_none.mp h, e⟩
  · cases e
theorem newP_of {H G : Hp} {p : Addr} {o : HO} (h : H p = none) (e : G p = some o) : newP H G p = some o := by
  unfold newP
  rw [if_pos (Option.isNone_iff_eq_none.mpr h)]
  exact e
theorem newP_none {H G : Hp} {p : Addr} (n : G p = none) : newP H G p = none := by
  cases e : newP H G p with
  | none => rfl
  | some o =>
    have := (newP_sub H G p o e).2
    rw [n] at this
    cases this
theorem sub_newP {F H G : Hp} (s : Sub F H G) : ∀ p o, F p = some o → newP H G p = some o := fun p o e => by
  unfold newP
  rw [if_pos (Option.isNone_iff_eq_none.mpr (s p o e).1)]
  exact (s p o e).2
theorem newP_up {H G G' : Hp} (s : Same G G') : ∀ p o, newP H G p = some o → newP H G' p = some o := fun p o e =>
  sub_newP (F := newP H G) (fun p o e => ⟨(newP_sub H G p o e).1, s p o (newP_sub H G p o e).2⟩) p o e
/-- made at σ from what stood in H: the data d | the rows of data ds -/
def Mk0 (K : PySem.W.Frag) (H : Hp) (σ : L2.St) (te : TE) (d : PyData) : Prop := ∀ G, Same H G → ∀ Q : VK, (∀ v G', Same G G' → Dat K (newP H G') v d → Q v G') → te σ G Q
def MkA (K : PySem.W.Frag) (H : Hp) (σ : L2.St) (ta : TA) (ds : List PyData) : Prop := ∀ G, Same H G → ∀ Q : List V → Hp → Prop, (∀ vs G', Same G G' → DatAll K (newP H G') vs ds → vs.length = ds.length → Q vs G') → ta σ G Q
section
variable {K : PySem.W.Frag} {H : Hp} {σ : L2.St}
theorem mk_int (i : Int) : Mk0 K H σ (tC (.int i)) (.int i) := fun G _ Q q => q _ G (Same.refl G) (.int i)
theorem mk_str (x : Str) : Mk0 K H σ (tC (.str x)) (.str x) := fun G _ Q q => q _ G (Same.refl G) (.str x)
theorem mk_bl (b : Bool) : Mk0 K H σ (tC (.bl b)) (.bool b) := fun G _ Q q => q _ G (Same.refl G) (.bl b)
theorem mk_non : Mk0 K H σ (tC .non) .none := fun G _ Q q => q _ G (Same.refl G) .non
theorem mk_neg (i : Int) : Mk0 K H σ (tUn (rU fun i => .int (-i)) (tC (.int i))) (.int (-i)) := fun G _ Q q => ⟨i, rfl, q _ G (Same.refl G) (.int (-i))⟩
theorem mk_pow {i j : Int} (h : CPow i j) : Mk0 K H σ (tOp (rI CPow fun i j => .int (i ^ j.toNat)) (tC (.int i)) (tC (.int j))) (.int (i ^ j.toNat)) := fun G _ Q q => ⟨i, j, rfl, rfl, h, q _ G (Same.refl G) (.int _)⟩
theorem mka_nil : MkA K H σ tNil [] := fun G _ Q q => q [] G (Same.refl G) .nil rfl
theorem mka_cons {te : TE} {ta : TA} {d : PyData} {ds : List PyData} (a : Mk0 K H σ te d) (b : MkA K H σ ta ds) : MkA K H σ (tCons te ta) (d :: ds) := fun G s Q q =>
  a G s _ fun v G1 s1 h1 => b G1 (s.trans s1) _ fun vs G2 s2 h2 len => q (v :: vs) G2 (s1.trans s2) (.cons (Dat.up (newP_up s2) h1) h2) (by rw [List.length_cons, List.length_cons, len])
theorem line1000 {n : Nat} (h : n ≤ 1000) : n ≤ sizeLine := Nat.le_of_lt (small1000 h)
theorem newP_at {G : Hp} {p : Addr} {o : HO} (s : Same H G) (n : G p = none) : newP H (upd G p o) p = some o := by
  unfold newP
  rw [if_pos (Option.isNone_iff_eq_none.mpr (s.free n)), upd_same]
theorem same_upd1 {G : Hp} {p : Addr} {o : HO} (n : G p = none) : Same G (upd G p o) := fun b x e => by
  rw [upd_ne (ne_of_none e n)]
  exact e
theorem mk_tup {ta : TA} {ds : List PyData} (a : MkA K H σ ta ds) (few : ds.length ≤ 1000) : Mk0 K H σ (tTup ta) (.tuple ds) := fun G s Q q =>
  a G s _ fun vs G1 s1 h len => ⟨line1000 (by omega), fun p np => q _ _ (s1.trans (same_upd1 np)) (.tup (.inl (.inl (newP_at (s.trans s1) np))) (DatAll.up (newP_up (same_upd1 np)) h))⟩
theorem mk_lst {ta : TA} {ds : List PyData} (a : MkA K H σ ta ds) (few : ds.length ≤ 1000) : Mk0 K H σ (tLst ta) (.list ds) := fun G s Q q =>
  a G s _ fun vs G1 s1 h len => ⟨line1000 (by omega), fun p np => q _ _ (s1.trans (same_upd1 np)) (.lst (.inl (.inl (newP_at (s.trans s1) np))) (DatAll.up (newP_up (same_upd1 np)) h))⟩
theorem mk_dic0 : Mk0 K H σ tDNewK (.dict []) := fun G s Q q => fun p np => q _ _ (same_upd1 np) (.dic (newP_at s np) .nil)
/-- a dict of one entry -/
theorem mk_dic1 {te : TE} {k : Key} {d : PyData} (a : ∀ G, Mk0 K G σ te d) : Mk0 K H σ (tDisp [(tC (kV k), te)]) (.dict [(keyD k, d)]) := fun G s Q q => fun p np =>
  a (upd G p (.dK [])) (upd G p (.dK [])) (Same.refl _) _ fun v G1 s1 h => by
    have at_p : G1 p = some (.dK []) := s1 _ _ upd_same
    refine ⟨at_p, [(k, v)], rfl, by show 1 ≤ 15; decide, ?_⟩
    have here : newP H (upd G1 p (.dK (mergeK [] [(k, v)]))) p = some (.dK [(k, v)]) := by
      unfold newP
      rw [if_pos (Option.isNone_iff_eq_none.mpr (s.free np)), upd_same]
      rfl
    refine q _ _ (fun b o e => ?_) (.dic here (.cons (Dat.up (fun b o e => ?_) h) .nil))
    · have ne : b ≠ p := ne_of_none e np
      rw [upd_ne ne]
      exact s1 _ _ (by rw [upd_ne ne]; exact e)
    · obtain ⟨e1, e2⟩ := newP_sub _ _ b o e
      have ne : b ≠ p := fun z => by
        rw [z, upd_same] at e1
        cases e1
      rw [upd_ne ne] at e1
      refine newP_of ?_ (by rw [upd_ne ne]; exact e2)
      cases z : H b with
      | none => rfl
      | some x =>
        rw [s _ _ z] at e1
        cases e1
/-! ### what one of several made things is: a list whose items stand elsewhere, or data without a list on top -/
def isListD : PyData → Bool
  | .list _ => true
  | _ => false
/-- v, made since H, in G: the data d -/
def Item (K : PySem.W.Frag) (H G : Hp) (v : V) (d : PyData) : Prop :=
  (∃ (a : Addr) (xs : List V) (ds : List PyData) (F : Hp), v = .ref a ∧ d = .list ds ∧ H a = none ∧ G a = some (.lst xs) ∧ Sub F H G ∧ F a = none ∧ DatAll K F xs ds) ∨ (isListD d = false ∧ Dat K (newP H G) v d)
theorem Item.up {G G' : Hp} {v : V} {d : PyData} (s : Same G G') (h : Item K H G v d) : Item K H G' v d := by
  rcases h with ⟨a, xs, ds, F, e1, e2, e3, e4, e5, e6, e7⟩ | ⟨e1, e2⟩
  · exact .inl ⟨a, xs, ds, F, e1, e2, e3, s _ _ e4, fun p o e => ⟨(e5 p o e).1, s _ _ (e5 p o e).2⟩, e6, e7⟩
  · exact .inr ⟨e1, Dat.up (newP_up s) e2⟩
def MkI (K : PySem.W.Frag) (H : Hp) (σ : L2.St) (te : TE) (I : PyData → Prop) : Prop := ∀ G, Same H G → ∀ Q : VK, (∀ v G' d, Same G G' → Item K H G' v d → I d → Q v G') → te σ G Q
def MkIs (K : PySem.W.Frag) (H : Hp) (σ : L2.St) (ta : TA) (n : Nat) (I : PyData → Prop) : Prop :=
  ∀ G, Same H G → ∀ Q : List V → Hp → Prop, (∀ vs G', Same G G' → vs.length = n → (∀ v ∈ vs, ∃ d, Item K H G' v d ∧ I d) → Q vs G') → ta σ G Q
theorem mki_dat {te : TE} {d : PyData} {I : PyData → Prop} (h : Mk0 K H σ te d) (no : isListD d = false) (i : I d) : MkI K H σ te I := fun G s Q q => h G s _ fun v G1 s1 dat => q v G1 d s1 (.inr ⟨no, dat⟩) i
theorem mki_lst {ta : TA} {ds : List PyData} {I : PyData → Prop} (h : MkA K H σ ta ds) (few : ds.length ≤ 1000) (i : I (.list ds)) : MkI K H σ (tLst ta) I := fun G s Q q =>
  h G s _ fun vs G1 s1 dat len => ⟨line1000 (by omega), fun p np => q _ _ _ (s1.trans (same_upd1 np))
    (.inl ⟨p, vs, ds, newP H G1, rfl, rfl, (s.trans s1).free np, upd_same, fun b o e => ⟨(newP_sub _ _ b o e).1, same_upd1 np _ _ (newP_sub _ _ b o e).2⟩, newP_none np, dat⟩) i⟩
theorem mkis_nil {I : PyData → Prop} : MkIs K H σ tNil 0 I := fun G _ Q q => q [] G (Same.refl G) rfl fun v m => nomatch m
theorem mkis_cons {te : TE} {ta : TA} {n : Nat} {I : PyData → Prop} (a : MkI K H σ te I) (b : MkIs K H σ ta n I) : MkIs K H σ (tCons te ta) (n + 1) I := fun G s Q q =>
  a G s _ fun v G1 d s1 it id => b G1 (s.trans s1) _ fun vs G2 s2 len each => q (v :: vs) G2 (s1.trans s2) (by rw [List.length_cons, len]) fun u m => by
    rcases List.mem_cons.mp m with e | m
    · subst e
      exact ⟨d, it.up s2, id⟩
    · exact each u m
end
end Vd

namespace Vd
open PySem PySem.Spec PyProof.Rows L2
/-! ### the law is called where no guard is around -/
section
variable {P : Program} {w : World} {K : PySem.W.Frag} {mg mb : Str → Option Value} {s : Shared} {H : Hp} {a : Addr} {vs : List Value}
/-- what stands beside the one list that is looked at -/
theorem around_one (inK : K.In s.heap) (gl : s.heap.Ns mainGlobals mg) (bn : s.heap.Ns builtinsNs mb) (bv : ∀ y : Str, y ≠ "__name__" → mb y = bootBuiltins y) (free : s.heap.NoLimit) (none_yet : s.gens = #[])
    (at_a : s.heap.get? a = some { cls := .type "list", data := .seq vs.toArray }) (good : HOk P w H s.heap) (one : ∀ b, b ≠ a → H b = none) (apart : (∃ u, H a = some u) → K.lookup a = none) :
    K.In (hidT s.heap H) ∧ (hidT s.heap H).Ns mainGlobals mg ∧ Env0 P w K mg (hidT s.heap H) callerA [] s H := by
  have dict_free : ∀ {b : Addr} {o : Obj} {es : Array DictEntry} {n : Nat}, s.heap.get? b = some o → o.data = .dict es n → H b = none := fun {b o es n} there isD =>
    one b fun same => by
      subst same
      rw [at_a] at there
      cases there
      have no : Data.seq vs.toArray _ = Data.dict es n := isD
      cases no
  have spaces : ∀ {b : Addr} {f : Str → Option Value}, s.heap.Ns b f → (hidT s.heap H).Ns b f := fun {b f} h => by
    obtain ⟨o, es, n, there, isD, rest⟩ := h
    exact ⟨o, es, n, hidT_get there (dict_free there isD), isD, rest⟩
  have written : K.In (hidT s.heap H) := fun b o look => by
    refine hidT_get (inK b o look) ?_
    by_cases same : b = a
    · cases seen : H b with
      | none => rfl
      | some u =>
        subst same
        rw [apart ⟨u, seen⟩] at look
        cases look
    · exact one b same
  obtain ⟨ml, lim1, lim2⟩ := free
  exact ⟨written, spaces gl, ⟨rfl, ⟨written, spaces gl, ⟨mb, spaces bn, bv⟩, ⟨ml, spaces lim1, lim2⟩⟩, fun b o z => of_hidT z, Nat.le_of_eq (hidT_size _ _), trivial,
    fun b no => absurd (show b ∈ ([] : List Addr) from no) (List.not_mem_nil), good, .of_eq none_yet⟩⟩
variable {k : Nat} {fa : Addr} {fd : FuncData} {x : Str} {sp : Sp} {ns : List Int}
theorem run_one (inK : K.In s.heap) (gl : s.heap.Ns mainGlobals mg) (bn : s.heap.Ns builtinsNs mb) (bv : ∀ y : Str, y ≠ "__name__" → mb y = bootBuiltins y) (free : s.heap.NoLimit) (none_yet : s.gens = #[])
    (at_a : s.heap.get? a = some { cls := .type "list", data := .seq vs.toArray }) (good : HOk P w H s.heap) (one : ∀ b, b ≠ a → H b = none) (apart : (∃ u, H a = some u) → K.lookup a = none) (only : Only H) (room : Room k callerA)
    (F : ∀ base : Heap, K.In base → base.Ns mainGlobals mg → FnG P w K mg base k fa fd [x] sp) (bind : ∀ (t : Shared) (u : Value), BindsTo t fd ⟨[u], []⟩ [(x, u)]) (ask : sp [.ref a] H (fun v _ => v = .bl true) E0) :
    codeAny (model P w) callerA (.call (.ref fa) ⟨[.ref a], []⟩) (fun r t => r = .ok (.ret (.bool true)) ∧ OldK s.heap t.heap ∧ t.os = s.os ∧ AllBare t.gens) s := by
  obtain ⟨written, glob, env⟩ := around_one inK gl bn bv free none_yet at_a good one apart
  refine codeAny_mono ((F _ written glob).go callerA [] s H ⟨[.ref a], []⟩ [.ref a] [.ref a] _ E0 room rfl env (bind s (.ref a)) (.cons rfl .nil) ask) fun r t got => ?_
  match r, got with
  | .ok (.ret u), ⟨v, H', os, bare, un, hok', rv, q⟩ =>
    have q' : v = .bl true := q
    subst q'
    cases (show u = Value.bool true from rv)
    refine ⟨rfl, OldK.of_keep fun b o there => ?_, os, bare⟩
    rcases only b with clear_ | ⟨ob, xs, frozen⟩
    · exact un.keep b o there clear_ (fun no => absurd (show b ∈ ([] : List Addr) from no) (List.not_mem_nil)) (List.not_mem_nil)
    · have before := (good b _ frozen).1
      have behind := (hok' b _ (un.frzs b ob _ frozen)).1
      rw [there] at before
      cases before
      exact behind
  | .ok .next, no => exact no.elim
  | .ok .brk, no => exact no.elim
  | .ok .cont, no => exact no.elim
  | .error _, no => exact no.elim
theorem run_law (inK : K.In s.heap) (gl : s.heap.Ns mainGlobals mg) (bn : s.heap.Ns builtinsNs mb) (bv : ∀ y : Str, y ≠ "__name__" → mb y = bootBuiltins y) (free : s.heap.NoLimit) (none_yet : s.gens = #[])
    (at_a : s.heap.get? a = some { cls := .type "list", data := .seq vs.toArray }) (isI : IntsAre vs ns) (few : ns.length ≤ sizeLine) (room : Room k callerA)
    (F : ∀ base : Heap, K.In base → base.Ns mainGlobals mg → FnG P w K mg base k fa fd [x] sp) (bind : ∀ (t : Shared) (u : Value), BindsTo t fd ⟨[u], []⟩ [(x, u)])
    (ask : ∀ H : Hp, SqL K H a (ns.map V.int) → sp [.ref a] H (fun v _ => v = .bl true) E0) :
    codeAny (model P w) callerA (.call (.ref fa) ⟨[.ref a], []⟩) (fun r t => r = .ok (.ret (.bool true)) ∧ OldK s.heap t.heap ∧ t.os = s.os ∧ AllBare t.gens) s := by
  have rel := vals_ints isI
  have same := isI.length
  cases look : K.lookup a with
  | none =>
    let seen : Hp := fun b => if b = a then some (.frz { cls := .type "list", data := .seq vs.toArray } (.lst (ns.map V.int))) else none
    have at_seen : seen a = some (.frz { cls := .type "list", data := .seq vs.toArray } (.lst (ns.map V.int))) := if_pos rfl
    have no_more : ∀ b, b ≠ a → seen b = none := fun b ne => if_neg ne
    refine run_one (H := seen) inK gl bn bv free none_yet at_a (fun b u e => ?_) no_more (fun _ => look) (fun b => ?_) room F bind (ask seen (.inl (.inr ⟨_, at_seen⟩)))
    · by_cases ne : b = a
      · subst ne
        rw [at_seen] at e
        cases e
        exact ⟨at_a, by rw [List.length_map]; exact few, vs, _, rel, at_a⟩
      · rw [no_more b ne] at e
        cases e
    · by_cases ne : b = a
      · exact .inr ⟨_, _, by rw [ne]; exact at_seen⟩
      · exact .inl (no_more b ne)
  | some o =>
    have there := inK a o look
    rw [at_a] at there
    cases there
    refine run_one (H := fun _ => none) inK gl bn bv free none_yet at_a (fun b u e => nomatch e) (fun _ _ => rfl) (fun ⟨u, e⟩ => nomatch e) (fun _ => .inl rfl) room F bind (ask _ (.inr ⟨_, vs.toArray, _, look, rfl, rfl, rfl, ?_, ?_⟩))
    · rw [List.size_toArray, same]
      exact few
    · simpa using rel
end
/-- the head for a law that asks repr -/
theorem walkG {l : PySem.W.OpenLaw} {n k : Nat} {q : Program} {loose : List Str} {XP : (Str → Option Value) → Heap → Prop} {YP : World → Heap → Prop} {d : DefRec} {K : Params → PySem.W.Frag} {sp : PySem.W.Frag → Sp} {x : Str}
    (most : l.most = some n) (low : n ≤ sizeLine) (plain : d.params.defaults = []) (room : Room k callerA) (there : ∀ (w : World) (h : Heap), YP w h → (K w.params).In h)
    (F : ∀ (w : World) (mg : Str → Option Value) (fa : Addr) (h : Heap), (K w.params).In h → h.Ns mainGlobals mg → mg d.name = some (.ref fa) →
      ∃ fd : FuncData, (∀ (t : Shared) (u : Value), BindsTo t fd ⟨[u], []⟩ [(x, u)]) ∧ ∀ base : Heap, (K w.params).In base → base.Ns mainGlobals mg → FnG l.prog w (K w.params) mg base k fa fd [x] (sp (K w.params)))
    (ask : ∀ (K : PySem.W.Frag) (H : Hp) (a : Addr) (ns : List Int), ns.length ≤ n → SqL K H a (ns.map V.int) → sp K [.ref a] H (fun v _ => v = .bl true) E0) :
    PySem.W.WalkO q loose XP YP l.row.toRowW d [] (fun f vs => PySem.call f vs) := by
  refine Att.attach_call most plain fun w s0 s1 mg mb fa o pm cd doc a vs ns G Y _ _ _ at_f at_a isI few gens => ?_
  have inK := there w _ Y
  obtain ⟨fd, bind, ok⟩ := F w mg fa _ inK G.T.g at_f
  exact run_law inK G.T.g G.T.b G.T.builtins G.T.nolimit gens at_a isI (Nat.le_trans few low) room ok bind fun H sq => ask _ H a ns few sq
end Vd

namespace K28
open PySem PySem.Spec PyProof.Rows L2 Vd Evl
def topS (i : Nat) : Stmt := PySem.Challenge.pw_fillerfed_k28_errors_and_fractions.main.body.getD i (.Pass ⟨0, 0, 0, 0⟩)
abbrev sBag : Stmt := topS 19
abbrev sTake : Stmt := topS 20
abbrev sSome : Stmt := topS 21
abbrev sAlike : Stmt := topS 22
theorem scBag : FnScope ["script", "cell"] ["script"] (defScope sBag) := ⟨rfl, rfl, rfl, by decide +kernel, rfl, by decide +kernel, by decide +kernel⟩
theorem scTake : FnScope ["bag", "many", "cell", "stirred", "value", "begin", "second"] ["bag", "many"] (defScope sTake) := ⟨rfl, rfl, rfl, by decide +kernel, rfl, by decide +kernel, by decide +kernel⟩
theorem scSome : FnScope ["bag", "things"] ["bag", "things"] (defScope sSome) := ⟨rfl, rfl, rfl, by decide +kernel, rfl, by decide +kernel, by decide +kernel⟩

/-! ### heaps: all as it was but the bag -/
def But (b : Addr) (H H' : Hp) : Prop := (∀ p o, p ≠ b → H p = some o → H' p = some o) ∧
  ∀ (x y z : Int) (c : Addr), H b = some (.lst [.int x, .int y, .int z, .ref c]) → ∃ x' y' z' : Int, H' b = some (.lst [.int x', .int y', .int z', .ref c])
theorem But.refl (b : Addr) (H : Hp) : But b H H := ⟨fun _ _ _ e => e, fun x y z _ e => ⟨x, y, z, e⟩⟩
theorem But.trans {b : Addr} {H H1 H2 : Hp} (x : But b H H1) (y : But b H1 H2) : But b H H2 := ⟨fun p o n e => y.1 p o n (x.1 p o n e), fun i j k c e => by
  obtain ⟨i', j', k', e'⟩ := x.2 i j k c e
  exact y.2 _ _ _ _ e'⟩
theorem But.of {b : Addr} {H H1 : Hp} (x : Same H H1) : But b H H1 := ⟨fun p o _ e => x p o e, fun i j k c e => ⟨i, j, k, x _ _ e⟩⟩
theorem But.upd {b c : Addr} {H H1 : Hp} {i j k i' j' k' : Int} (x : But b H H1) (at_b : H b = some (.lst [.int i, .int j, .int k, .ref c])) : But b H (upd H1 b (.lst [.int i', .int j', .int k', .ref c])) := ⟨fun p u n e => by
  rw [upd_ne n]
  exact x.1 p u n e, fun i2 j2 k2 c2 e => by
  rw [at_b] at e
  cases e
  exact ⟨i', j', k', upd_same⟩⟩
theorem But.new {b p : Addr} {H H1 : Hp} {o : HO} (x : But b H H1) (n : H1 p = none) : But b H (L2.upd H1 p o) := ⟨fun q u ne e => by
  have e1 := x.1 q u ne e
  rw [upd_ne (ne_of_none e1 n)]
  exact e1, fun i j k c e => by
  obtain ⟨i', j', k', e'⟩ := x.2 i j k c e
  exact ⟨i', j', k', by rw [upd_ne (ne_of_none e' n)]; exact e'⟩⟩
def BagAt (H : Hp) (b : Addr) : Prop := ∃ (x y z : Int) (c : Addr) (ns : List Int), H b = some (.lst [.int x, .int y, .int z, .ref c]) ∧ H c = some (.lst (ns.map V.int)) ∧ ns.length ≤ 63
theorem same_new {H : Hp} {p : Addr} {o : HO} (h : H p = none) : Same H (upd H p o) := fun b x e => by
  rw [upd_ne (ne_of_none e h)]
  exact e
theorem len_line {n : Nat} (h : n ≤ 100000) : n ≤ sizeLine := Nat.le_trans h (by decide)

section
variable {P : Program} {w : World} {K : PySem.W.Frag} {mg : Str → Option Value} {base : Heap}
/-! ### the bag -/
def spBag (K : PySem.W.Frag) : Sp := fun vs H Q _ => ∃ (a : Addr) (ns : List Int), vs = [.ref a] ∧ SqL K H a (ns.map V.int) ∧ ns.length ≤ 63 ∧ ∀ H' p, Same H H' → H p = none → BagAt H' p → Q (.ref p) H'
theorem cut_ints (ns : List Int) (lo hi : Option Int) : ∃ ms : List Int, cutV (ns.map V.int) lo hi = ms.map V.int ∧ ms.length ≤ ns.length := by
  refine ⟨(ns.drop (HT.sIx (ns.map V.int).length 0 lo)).take (HT.sIx (ns.map V.int).length (ns.map V.int).length hi - HT.sIx (ns.map V.int).length 0 lo), ?_, ?_⟩
  · unfold cutV
    rw [List.map_take, List.map_drop]
  · rw [List.length_take, List.length_drop]
    omega
theorem ok_bag {f : Addr} {fd : FuncData} (F : Fun K "_law_bag" "_law_bag" sBag f fd) (ma : mg "abs" = none) : FnOk P w K mg base CX0 1 f fd ["script"] (spBag K) := by
  refine F.ok scBag (fun vs H Q E h => ?_) (fun cdv A outer s H vs Q E hr h => ?_)
  · obtain ⟨a, ns, rfl, _⟩ := h
    rfl
  · obtain ⟨a, ns, rfl, hS, hlen, q⟩ := h
    refine ⟨_, pss_one (ps_ret (pe_lst (pa_cons pe_int (pa_cons pe_int (pa_cons pe_int (pa_cons
      (pe_lc (own := [("cell", 1)]) (g := gName 1) (tt := tYes) rfl scBag.nd (pi_list (pe_slice sl_list (pv 0) po_none (po_some pe_int)))
        (blkOk_by (N := ["script", "cell"]) (sc := defScope sBag) (by decide +kernel)) (fun _ _ _ _ _ => pg_name (i := 1) scBag.nd rfl (Or.inl rfl)) (fun _ _ _ _ _ => pts_nil)
        (fun _ _ _ _ _ => pe_callB call_abs (by rfl) ma (by decide +kernel) (pa_cons (pv 1) pa_nil)))
      pa_nil)))))), ?_⟩
    obtain ⟨ms, cut, small⟩ := cut_ints ns none (some 63)
    refine ⟨.ref a, rfl, 63, rfl, a, ns.map V.int, rfl, hS, fun c nc => ?_⟩
    rw [cut]
    have s1 : Same H (upd H c (.lst (ms.map V.int))) := same_new nc
    refine ⟨c, rfl, ⟨_, SqL.of upd_same⟩, fun D nD => ?_⟩
    have cD : c ≠ D := ne_of_none (upd_same (H := H) (a := c)) nD
    refine lc_list (K := K) (a := c) (xs := ms.map V.int) (fun i G => ∃ os : List Int, os.length = i ∧ G D = some (.lst (os.map V.int)) ∧ G c = some (.lst (ms.map V.int)) ∧ Same H G) ?_ ?_ ?_ ?_
    · exact ⟨[], rfl, upd_same, by rw [upd_ne cD, upd_same], s1.trans (same_new nD)⟩
    · rintro i G _ ⟨os, _, _, at_c, _⟩
      exact SqL.of at_c
    · rintro i x G at_i ⟨os, len, at_D, at_c, same⟩
      obtain ⟨n, rfl⟩ : ∃ n, x = V.int n := by
        rw [List.getElem?_map] at at_i
        cases e : ms[i]? with
        | none => rw [e] at at_i; cases at_i
        | some n => rw [e] at at_i; exact ⟨n, (Option.some.inj at_i).symm⟩
      have lt : i < ms.length := by
        have := (List.getElem?_eq_some_iff.mp at_i).1
        rwa [List.length_map] at this
      refine ⟨rfl, _, rfl, n, rfl, _, at_D, ?_, os ++ [if n < 0 then -n else n], by simp [len], ?_, ?_, ?_⟩
      · rw [List.length_map]
        exact small1000 (by omega)
      · rw [upd_same, List.map_append]
        rfl
      · rw [upd_ne cD]
        exact at_c
      · refine fun p o e => ?_
        have e1 := same p o e
        rw [upd_ne (ne_of_none e (s1.free nD))]
        exact e1
    · rintro G ⟨os, len, at_D, at_c, same⟩
      refine ⟨len_line (by show 4 ≤ 100000; decide), fun p np => ?_⟩
      refine q _ p (same.trans (same_new np)) (same.free np) ⟨0, 1234567891, 0, D, os, upd_same, ?_, ?_⟩
      · rw [upd_ne (ne_of_none at_D np)]
        exact at_D
      · rw [List.length_map] at len
        omega

/-! ### a draw -/
def spTake : Sp := fun vs H Q _ => ∃ (b : Addr) (many : Int), vs = [.ref b, .int many] ∧ BagAt H b ∧ 0 < many ∧ many < 1073741824 ∧ ∀ H' v, But b H H' → BagAt H' b → 0 ≤ v → v < many → Q (.int v) H'
theorem at4 (a b c d : V) : atI [a, b, c, d] 0 = some a ∧ atI [a, b, c, d] 1 = some b ∧ atI [a, b, c, d] 2 = some c ∧ atI [a, b, c, d] 3 = some d := ⟨rfl, rfl, rfl, rfl⟩
theorem bag_apart {H : Hp} {b c : Addr} {x y z : Int} {ns : List Int} (hb : H b = some (.lst [.int x, .int y, .int z, .ref c])) (hc : H c = some (.lst (ns.map V.int))) : c ≠ b := by
  refine ne_of hc hb fun e => ?_
  have e1 : ns.map V.int = [.int x, .int y, .int z, .ref c] := by injection e
  have m : V.ref c ∈ ns.map V.int := by
    rw [e1]
    simp
  obtain ⟨n, _, no⟩ := List.mem_map.mp m
  cases no
theorem first_int (ms : List Int) : ∃ k, atI (ms.map V.int ++ [V.int 0]) 0 = some (V.int k) := by
  cases ms with
  | nil => exact ⟨0, rfl⟩
  | cons m ms => exact ⟨m, atI_nat (j := 0) rfl⟩
theorem ok_take {f : Addr} {fd : FuncData} (F : Fun K "_law_take" "_law_take" sTake f fd) (mi : mg "int" = none) : FnOk P w K mg base CX0 1 f fd ["bag", "many"] spTake := by
  refine F.ok scTake (fun vs H Q E h => ?_) (fun cdv A outer s H vs Q E hr h => ?_)
  · obtain ⟨b, m, rfl, _⟩ := h
    rfl
  · obtain ⟨b, many, rfl, ⟨x, y, z, c, ns, at_b, at_c, few⟩, pos, low, q⟩ := h
    have nd := scTake.nd
    refine ⟨_, pss_cut (ps_if (pt_cmpR op_eq (pe_ix ix_list (pv 0) pe_int (fun _ _ => rfl)) pe_int (nomark _))
        (pss_cons (ps_set (i := 2) nd rfl (Or.inl rfl) (pe_ix ix_list (pe_op op_cat (pe_slice sl_list (pe_ix ix_list (pv 0) pe_int (fun _ _ => rfl)) (po_some (pe_ix ix_list (pv 0) pe_int (fun _ _ => rfl))) po_none) (pe_lst (pa_cons pe_int pa_nil))) pe_int (fun _ _ => rfl)))
        (pss_cons (ps_augS (pv 0) pe_int get_list pe_int ip_add set_list)
        (pss_cut (ps_if (pt_cmpR op_ge (pv 2) (pe_op op_pow pe_int pe_int) (nomark _)) (pss_one (ps_asg (pv 2) (pg_sub (pv 0) pe_int set_list))) pss_nil)
        (pss_cons (ps_set (i := 3) nd rfl (Or.inl rfl) (pe_op op_add (pe_op op_add (pe_op op_mul (pe_ix ix_list (pv 0) pe_int (fun _ _ => rfl)) pe_int)
            (pe_op op_mod (pe_callTy call_int1 (by rfl) mi (by decide +kernel) (pa_cons (pv 2) pa_nil)) pe_int)) (pe_op op_mul pe_int (pe_ix ix_list (pv 0) pe_int (fun _ _ => rfl)))))
        (pss_one (ps_asg (pe_op op_mod (pe_callTy call_int1 (by rfl) mi (by decide +kernel) (pa_cons (pv 3) pa_nil)) pe_int) (pg_sub (pv 0) pe_int set_list)))))))
        pss_nil)
      (pss_cons (ps_if (pt_cmpR op_gt (pe_ix ix_list (pv 0) pe_int (fun _ _ => rfl)) pe_int (nomark _))
        (pss_cons (ps_set (i := 4) nd rfl (Or.inl rfl) (pe_op op_mod (pe_callTy call_int1 (by rfl) mi (by decide +kernel) (pa_cons (pe_ix ix_list (pv 0) pe_int (fun _ _ => rfl)) pa_nil)) (pv 1)))
        (pss_cons (ps_asg (pe_op op_fdiv (pe_callTy call_int1 (by rfl) mi (by decide +kernel) (pa_cons (pe_ix ix_list (pv 0) pe_int (fun _ _ => rfl)) pa_nil)) (pv 1)) (pg_sub (pv 0) pe_int set_list))
        (pss_one (ps_ret (pv 4))))) pss_nil)
      (pss_cons (ps_set (i := 5) nd rfl (Or.inl rfl) (pe_op op_mod (pe_callTy call_int1 (by rfl) mi (by decide +kernel) (pa_cons (pe_op op_mul (pe_op op_add (pe_ix ix_list (pv 0) pe_int (fun _ _ => rfl)) pe_int) pe_int) pa_nil)) pe_int))
      (pss_cons (ps_set (i := 6) nd rfl (Or.inl rfl) (pe_op op_mod (pe_callTy call_int1 (by rfl) mi (by decide +kernel) (pa_cons (pe_op op_mul (pe_op op_mod (pe_callTy call_int1 (by rfl) mi (by decide +kernel) (pa_cons (pe_op op_mul (pv 5) (pv 5)) pa_nil)) pe_int) pe_int) pa_nil)) pe_int))
      (pss_one (ps_ret (pe_op op_mod (pe_callTy call_int1 (by rfl) mi (by decide +kernel) (pa_cons (pe_op op_fdiv (pv 6) pe_int) pa_nil)) (pv 1))))))), ?_⟩
    have cb : c ≠ b := bag_apart at_b at_c
    refine ⟨fun σ' H' => ∃ (x y z : Int) (s2 s3 s4 s5 s6 : Option V), σ' = [some (.ref b), some (.int many), s2, s3, s4, s5, s6] ∧ H' b = some (.lst [.int x, .int y, .int z, .ref c]) ∧ But b H H', ?_, ?_⟩
    · -- if bag[0] == 0
      refine ⟨_, rfl, b, _, 0, _, rfl, rfl, SqL.of at_b, rfl, rfl, _, rfl, ?_⟩
      refine ite2 (fun _ => ?_) (fun _ => ⟨x, y, z, none, none, none, none, none, rfl, at_b, But.refl b H⟩)
      obtain ⟨ms, cut, small⟩ := cut_ints ns (some z) none
      obtain ⟨k, first⟩ := first_int ms
      refine ⟨_, rfl, b, _, 3, _, rfl, rfl, SqL.of at_b, rfl, _, rfl, b, _, 2, _, rfl, rfl, SqL.of at_b, rfl, z, rfl, c, ns.map V.int, rfl, SqL.of at_c, fun p np => ?_⟩
      rw [cut]
      refine ⟨len_line (by show 1 ≤ 100000; decide), fun p2 np2 => ?_⟩
      have pp : p ≠ p2 := ne_of_none (upd_same (H := H) (a := p)) np2
      refine ⟨p, p2, ms.map V.int, _, rfl, rfl, by rw [upd_ne pp, upd_same], upd_same, len_line (by simp; omega), fun p3 np3 => ?_⟩
      refine ⟨p3, _, 0, .int k, rfl, rfl, SqL.of upd_same, first, ?_⟩
      have s3 := ((same_new (o := .lst (ms.map V.int)) np).trans (same_new (o := .lst [V.int 0]) np2)).trans (same_new (o := .lst (ms.map V.int ++ [V.int 0])) np3)
      revert s3
      generalize upd (upd (upd H p (.lst (ms.map V.int))) p2 (.lst [V.int 0])) p3 (.lst (ms.map V.int ++ [V.int 0])) = H3
      intro s3
      -- bag[2] += 1
      refine ⟨_, rfl, b, _, 2, _, rfl, rfl, SqL.of (s3 _ _ at_b), rfl, z, 1, rfl, rfl, b, _, 2, 2, rfl, rfl, s3 _ _ at_b, rfl, ?_⟩
      refine ⟨fun σ' H' => ∃ x : Int, σ' = [some (.ref b), some (.int many), some (.int k), none, none, none, none] ∧ H' b = some (.lst [.int x, .int y, .int (z + 1), .ref c]) ∧ But b H H', ?_, ?_⟩
      · refine ⟨_, rfl, 10, 18, rfl, rfl, ⟨by decide, by decide, by decide⟩, _, _, rfl, rfl, _, rfl, ?_⟩
        refine ite2 (fun _ => ?_) (fun _ => ⟨x, rfl, upd_same, (But.of s3).upd at_b⟩)
        exact ⟨_, rfl, _, rfl, b, _, 0, 0, rfl, rfl, upd_same, rfl, k, rfl, upd_same, ((But.of s3).upd (i' := x) (j' := y) (k' := z + 1) at_b).upd at_b⟩
      · rintro _ H4 ⟨x4, rfl, at4b, but4⟩
        refine ⟨_, rfl, b, _, 1, _, rfl, rfl, SqL.of at4b, rfl, _, _, rfl, rfl, .inr ⟨by decide, by decide⟩, _, rfl, .inl ⟨k, rfl, ?_⟩⟩
        refine ⟨_, _, rfl, rfl, (by show (0 : Int) < 2147483647; decide), _, _, rfl, rfl, ?_⟩
        refine ⟨_, rfl, b, _, 2, _, rfl, rfl, SqL.of at4b, rfl, _, _, rfl, rfl, .inl ⟨by decide, by decide⟩, _, _, rfl, rfl, ?_⟩
        refine ⟨_, rfl, .inl ⟨_, rfl, ?_⟩⟩
        refine ⟨_, _, rfl, rfl, (by show (0 : Int) < 2147483647; decide), _, rfl, b, _, 1, 1, rfl, rfl, at4b, rfl, ?_⟩
        exact ⟨x4, _, z + 1, _, _, none, none, none, rfl, upd_same, but4.upd at_b⟩
    · rintro _ H1 ⟨x1, y1, z1, s2, s3, s4, s5, s6, rfl, at1, but1⟩
      have at_c1 : ∀ {G : Hp}, But b H G → G c = some (.lst (ns.map V.int)) := fun h => h.1 _ _ cb at_c
      refine ⟨_, rfl, b, _, 0, _, rfl, rfl, SqL.of at1, rfl, _, _, rfl, rfl, _, rfl, ?_⟩
      refine ite2 (fun _ => ?_) (fun _ => ?_)
      · refine ⟨_, rfl, b, _, 0, _, rfl, rfl, SqL.of at1, rfl, .inl ⟨_, rfl, _, rfl, _, _, rfl, rfl, pos, ?_⟩⟩
        refine ⟨_, rfl, b, _, 0, _, rfl, rfl, SqL.of at1, rfl, .inl ⟨_, rfl, _, rfl, _, _, rfl, rfl, ⟨pos, low⟩, ?_⟩⟩
        refine ⟨_, rfl, b, _, 0, 0, rfl, rfl, at1, rfl, _, rfl, ?_⟩
        exact q _ _ (but1.upd at_b) ⟨_, y1, z1, c, ns, upd_same, at_c1 (but1.upd (i' := x1 / many) (j' := y1) (k' := z1) at_b), few⟩ (Int.emod_nonneg _ (by omega)) (Int.emod_lt_of_pos _ pos)
      · refine ⟨_, rfl, b, _, 1, _, rfl, rfl, SqL.of at1, rfl, _, _, rfl, rfl, _, _, rfl, rfl, .inr ⟨by decide, by decide⟩, .inl ⟨_, rfl, ?_⟩⟩
        have p1 : (0 : Int) < 1000000007 := by decide
        have p2 : (0 : Int) < 998244353 := by decide
        refine ⟨_, _, rfl, rfl, p1, ?_⟩
        have l1 := Int.emod_nonneg ((y1 + 1) * 39373) (b := 1000000007) (by decide)
        have l2 := Int.emod_lt_of_pos ((y1 + 1) * 39373) p1
        refine ⟨_, rfl, _, rfl, _, _, rfl, rfl, .inl ⟨by omega, by omega⟩, .inl ⟨_, rfl, _, _, rfl, rfl, p2, _, _, rfl, rfl, .inr ⟨by decide, by decide⟩, .inl ⟨_, rfl, _, _, rfl, rfl, p2, ?_⟩⟩⟩
        refine ⟨_, rfl, _, _, rfl, rfl, ⟨by decide, by decide⟩, .inl ⟨_, rfl, _, rfl, _, _, rfl, rfl, pos, ?_⟩⟩
        exact q _ _ but1 ⟨x1, y1, z1, c, ns, at1, at_c1 but1, few⟩ (Int.emod_nonneg _ (by omega)) (Int.emod_lt_of_pos _ pos)

/-! ### where a def stands -/
structure At (K : PySem.W.Frag) (mg : Str → Option Value) (x : Str) (st : Stmt) (ps : List Str) (f : Addr) (fd : FuncData) : Prop where
  fn : Fun K x x st f fd
  b : Binds K fd ps []
  g : mg x = some (.ref f)
theorem But.rd {b p : Addr} {H H' : Hp} {u : HO} (x : But b H H') (n : p ≠ b) (h : Rd H p u) : Rd H' p u := by
  rcases h with h | ⟨o, h⟩
  · exact .inl (x.1 _ _ n h)
  · exact .inr ⟨o, x.1 _ _ n h⟩
theorem But.l {b p : Addr} {H H' : Hp} {xs : List V} (x : But b H H') (n : p ≠ b) (h : SqL K H p xs) : SqL K H' p xs := by
  rcases h with h | h
  · exact .inl (x.rd n h)
  · exact .inr h
theorem But.t {b p : Addr} {H H' : Hp} {xs : List V} (x : But b H H') (n : p ≠ b) (h : SqT K H p xs) : SqT K H' p xs := by
  rcases h with h | h
  · exact .inl (x.rd n h)
  · exact .inr h
/-! ### one of some things -/
def spSome (K : PySem.W.Frag) : Sp := fun vs H Q _ => ∃ (b p : Addr) (xs : List V), vs = [.ref b, .ref p] ∧ BagAt H b ∧ (SqL K H p xs ∨ SqT K H p xs) ∧ p ≠ b ∧ 0 < xs.length ∧ xs.length < 1073741824 ∧
  ∀ H' v, v ∈ xs → But b H H' → BagAt H' b → Q v H'
theorem ok_some {f fT : Addr} {fd fdT : FuncData} (F : At K mg "_law_some" sSome ["bag", "things"] f fd) (T : At K mg "_law_take" sTake ["bag", "many"] fT fdT) (mi : mg "int" = none) (ml : mg "len" = none) :
    FnOk P w K mg base CX0 2 f fd ["bag", "things"] (spSome K) := by
  have GT : FnOk P w K mg base CX0 1 fT fdT ["bag", "many"] spTake := ok_take T.fn mi
  refine F.fn.ok scSome (fun vs H Q E h => ?_) (fun cdv A outer s H vs Q E hr h => ?_)
  · obtain ⟨b, p, xs, rfl, _⟩ := h
    rfl
  · obtain ⟨b, p, xs, rfl, bag, there, apart, pos, low, q⟩ := h
    refine ⟨_, pss_one (ps_ret (pe_ix (ix_list.or ix_tup) (pv 1) (pe_call GT hr (by rfl) T.g T.fn.kp T.b .nil pass0 (pa_cons (pv 0) (pa_cons (pe_callB call_len_seq (by rfl) ml PySem.boot_len (pa_cons (pv 1) pa_nil)) pa_nil))) (fun _ _ => rfl))), ?_⟩
    refine ⟨_, rfl, _, rfl, _, rfl, p, xs, rfl, there, b, _, rfl, bag, by omega, by omega, fun H' v but bag' lo hi => ?_⟩
    obtain ⟨n, rfl⟩ := Int.eq_ofNat_of_zero_le lo
    have lt : n < xs.length := by omega
    rcases there with t | t
    · exact .inl ⟨p, xs, _, xs[n], rfl, rfl, but.l apart t, atI_nat (by simp [lt]), q H' _ (List.getElem_mem lt) but bag'⟩
    · exact .inr ⟨p, xs, _, xs[n], rfl, rfl, but.t apart t, atI_nat (by simp [lt]), q H' _ (List.getElem_mem lt) but bag'⟩
/-! ### alike -/
theorem scAlike : FnScope ["found", "due"] ["found", "due"] (defScope sAlike) := ⟨rfl, rfl, rfl, by decide +kernel, rfl, by decide +kernel, by decide +kernel⟩
def spAlike (K : PySem.W.Frag) : Sp := fun vs H Q _ => ∃ (x y : V) (d : PyData), vs = [x, y] ∧ Dat K H x d ∧ Dat K H y d ∧ Shows d ∧ d.depth ≤ 60 ∧ Q (.bl true) H
theorem ok_alike {f : Addr} {fd : FuncData} (F : At K mg "_law_alike" sAlike ["found", "due"] f fd) (mr : mg "repr" = none) : FnG P w K mg base 1 f fd ["found", "due"] (spAlike K) := by
  refine okG F.fn scAlike (fun vs H Q E h => ?_) (fun cdv A outer s H vs Q E hr gd h => ?_)
  · obtain ⟨x, y, d, rfl, _⟩ := h
    rfl
  · obtain ⟨x, y, d, rfl, dx, dy, sh, deep, q⟩ := h
    refine ⟨_, pss_one (ps_ret (pe_and (pe_cmpR (op_eqDat hr.units) (pv 0) (pv 1) (nomark _)) (pe_one (pe_cmpR op_eq (pe_callB (call_reprD hr.units gd) (by rfl) mr (by decide +kernel) (pa_cons (pv 0) pa_nil))
      (pe_callB (call_reprD hr.units gd) (by rfl) mr (by decide +kernel) (pa_cons (pv 1) pa_nil)) (nomark _))))), ?_⟩
    refine ⟨_, rfl, _, rfl, d, dx, dy, deep, _, rfl, iteT ⟨_, rfl, x, d, rfl, dx, sh, deep, _, rfl, y, d, rfl, dy, sh, deep, rfl, ?_⟩⟩
    have e : decide (V.str d.shown = V.str d.shown) = true := decide_eq_true rfl
    rw [e]
    exact q
end
end K28

namespace K28
open PySem PySem.Spec PyProof.Rows L2 Vd Evl
abbrev sRed : Stmt := topS 2
abbrev sAdd : Stmt := topS 3
abbrev sLess : Stmt := topS 4
abbrev sTimes : Stmt := topS 5
abbrev sComp : Stmt := topS 6
abbrev sText : Stmt := topS 7
abbrev sLCom : Stmt := topS 24
abbrev sLRed : Stmt := topS 25
theorem scRed : FnScope ["n", "d", "common"] ["n", "d"] (defScope sRed) := ⟨rfl, rfl, rfl, by decide +kernel, rfl, by decide +kernel, by decide +kernel⟩
theorem scAdd : FnScope ["one", "other"] ["one", "other"] (defScope sAdd) := ⟨rfl, rfl, rfl, by decide +kernel, rfl, by decide +kernel, by decide +kernel⟩
theorem scLess : FnScope ["one", "other"] ["one", "other"] (defScope sLess) := ⟨rfl, rfl, rfl, by decide +kernel, rfl, by decide +kernel, by decide +kernel⟩
theorem scTimes : FnScope ["one", "other"] ["one", "other"] (defScope sTimes) := ⟨rfl, rfl, rfl, by decide +kernel, rfl, by decide +kernel, by decide +kernel⟩
theorem scComp : FnScope ["one", "other", "left", "right"] ["one", "other"] (defScope sComp) := ⟨rfl, rfl, rfl, by decide +kernel, rfl, by decide +kernel, by decide +kernel⟩
theorem scText : FnScope ["one", "n", "d"] ["one"] (defScope sText) := ⟨rfl, rfl, rfl, by decide +kernel, rfl, by decide +kernel, by decide +kernel⟩
theorem scLCom : FnScope ["one", "other"] ["one", "other"] (defScope sLCom) := ⟨rfl, rfl, rfl, by decide +kernel, rfl, by decide +kernel, by decide +kernel⟩
theorem scLRed : FnScope ["n", "d", "common"] ["n", "d"] (defScope sLRed) := ⟨rfl, rfl, rfl, by decide +kernel, rfl, by decide +kernel, by decide +kernel⟩

/-! ### fractions -/
/-- the greatest common divisor, as an int -/
def gz (n d : Int) : Int := ((Nat.gcd n.natAbs d.natAbs : Nat) : Int)
/-- n / d as the fraction that stands for it -/
def red (n d : Int) : Int × Int := if 0 < d then (n / gz n d, d / gz n d) else ((-n) / gz n d, (-d) / gz n d)
theorem gz_pos {n d : Int} (h : d ≠ 0) : 0 < gz n d := by
  have : 0 < Nat.gcd n.natAbs d.natAbs := Nat.gcd_pos_of_pos_right _ (by omega)
  unfold gz
  omega
theorem gz_low {n d : Int} {k : Nat} (h : d ≠ 0) (hd : d.natAbs < 2 ^ k) : (gz n d).natAbs < 2 ^ k := by
  have : Nat.gcd n.natAbs d.natAbs ≤ d.natAbs := Nat.gcd_le_right _ (by omega)
  unfold gz
  omega
theorem gz_neg (n d : Int) : gz (-n) (-d) = gz n d := by
  unfold gz
  rw [Int.natAbs_neg, Int.natAbs_neg]
theorem fdiv_pos {n g : Int} (h : 0 < g) : n.fdiv g = n / g := Int.fdiv_eq_ediv_of_nonneg n (by omega)
theorem fdiv_neg {n g : Int} (h : g ∣ n) (hg : g ≠ 0) : n.fdiv (-g) = (-n) / g := by
  obtain ⟨k, rfl⟩ := h
  have e1 : g * k = (-g) * (-k) := by rw [Int.neg_mul_neg]
  have e2 : (g * k).fdiv (-g) = -k := by
    rw [e1, Int.mul_fdiv_cancel_left _ (by omega)]
  rw [e2, ← Int.mul_neg, Int.mul_ediv_cancel_left _ hg]
theorem gz_dvd1 (n d : Int) : gz n d ∣ n := by
  unfold gz
  exact Int.ofNat_dvd_left.mpr (Nat.gcd_dvd_left _ _)
theorem gz_dvd2 (n d : Int) : gz n d ∣ d := by
  unfold gz
  exact Int.ofNat_dvd_left.mpr (Nat.gcd_dvd_right _ _)

section
variable {X : Cx}
/-- // by a divisor of either sign, below 2 ^ 9000 -/
theorem op_fdivL : OpR X (binaryOp .FloorDiv) (rI (fun _ j => j ≠ 0 ∧ j.natAbs.log2 < 9000) fun i j => .int (i.fdiv j)) := opI fun _ _ _ _ _ _ _ h q => floordiv_int h.1 q (.inl (PyProof.noPylong_of_log2 h.2))
end
theorem log_low {j : Int} (h : j.natAbs < 2 ^ 400) : j.natAbs.log2 < 9000 := Nat.lt_of_lt_of_le (PySem.Flt.log2_lt_of (by decide) h) (by decide)

section
variable {P : Program} {w : World} {K : PySem.W.Frag} {mg : Str → Option Value} {base : Heap}
/-- a fraction, made anew -/
def Fresh2 (H : Hp) (Q : VK) (r : Int × Int) : Prop := ∀ H' p, Same H H' → H p = none → H' p = some (.tup [.int r.1, .int r.2]) → Q (.ref p) H'
def spRed : Sp := fun vs H Q _ => ∃ n d : Int, vs = [.int n, .int d] ∧ d ≠ 0 ∧ n.natAbs < 2 ^ 400 ∧ d.natAbs < 2 ^ 400 ∧ Fresh2 H Q (red n d)
theorem ok_red {f : Addr} {fd : FuncData} (F : At K mg "reduced" sRed ["n", "d"] f fd) (mG : mg "gcd" = some (.builtin "math.gcd")) : FnOk P w K mg base CX0 1 f fd ["n", "d"] spRed := by
  refine F.fn.ok scRed (fun vs H Q E h => ?_) (fun cdv A outer s H vs Q E hr h => ?_)
  · obtain ⟨n, d, rfl, _⟩ := h
    rfl
  · obtain ⟨n, d, rfl, d0, ln, ld, q⟩ := h
    have nd := scRed.nd
    refine ⟨_, pss_cons (ps_set (i := 2) nd rfl (Or.inl rfl) (pe_callBfun cr_gcd (by rfl) mG (pa_cons (pv 0) (pa_cons (pv 1) pa_nil))))
      (pss_cons (ps_if (pt_cmpR op_lt (pv 1) pe_int (nomark _)) (pss_one (ps_set (i := 2) nd rfl (Or.inl rfl) (pe_un un_neg (pv 2)))) pss_nil)
      (pss_one (ps_ret (pe_tup (pa_cons (pe_op op_fdivL (pv 0) (pv 2)) (pa_cons (pe_op op_fdivL (pv 1) (pv 2)) pa_nil)))))), ?_⟩
    have gp := gz_pos (n := n) d0
    have gl := gz_low (n := n) d0 ld
    refine ⟨_, rfl, _, rfl, n, d, rfl, ?_⟩
    refine ⟨_, rfl, _, _, rfl, rfl, _, rfl, ?_⟩
    refine ite2 (fun neg => ?_) (fun up => ?_)
    · have neg' : d < 0 := of_decide_eq_true neg
      refine ⟨_, rfl, gz n d, rfl, ?_⟩
      refine ⟨_, rfl, _, rfl, n, -gz n d, rfl, rfl, ⟨by omega, by rw [Int.natAbs_neg]; exact log_low gl⟩, _, rfl, _, rfl, d, -gz n d, rfl, rfl, ⟨by omega, by rw [Int.natAbs_neg]; exact log_low gl⟩, len_line (by show 2 ≤ 100000; decide), fun p np => ?_⟩
      refine q _ p (same_new np) np ?_
      rw [upd_same]
      show some (HO.tup [.int (n.fdiv (-gz n d)), .int (d.fdiv (-gz n d))]) = _
      rw [fdiv_neg (gz_dvd1 n d) (by omega), fdiv_neg (gz_dvd2 n d) (by omega)]
      have e : red n d = ((-n) / gz n d, (-d) / gz n d) := if_neg (by omega)
      rw [e]
    · have up' : ¬ d < 0 := fun z => up (decide_eq_true z)
      refine ⟨_, rfl, _, rfl, n, gz n d, rfl, rfl, ⟨by omega, log_low gl⟩, _, rfl, _, rfl, d, gz n d, rfl, rfl, ⟨by omega, log_low gl⟩, len_line (by show 2 ≤ 100000; decide), fun p np => ?_⟩
      refine q _ p (same_new np) np ?_
      rw [upd_same]
      show some (HO.tup [.int (n.fdiv (gz n d)), .int (d.fdiv (gz n d))]) = _
      rw [fdiv_pos gp, fdiv_pos gp]
      have e : red n d = (n / gz n d, d / gz n d) := if_pos (by omega)
      rw [e]

/-- two fractions that stand in tuples -/
def Two (K : PySem.W.Frag) (H : Hp) (vs : List V) (a b c d : Int) : Prop := ∃ p q : Addr, vs = [.ref p, .ref q] ∧ SqT K H p [.int a, .int b] ∧ SqT K H q [.int c, .int d] ∧ a.natAbs < 2 ^ 100 ∧ b.natAbs < 2 ^ 100 ∧ c.natAbs < 2 ^ 100 ∧ d.natAbs < 2 ^ 100 ∧ 0 < b ∧ 0 < d
theorem two_len {H : Hp} {vs : List V} {a b c d : Int} (h : Two K H vs a b c d) : vs.length = 2 := by
  obtain ⟨p, q, rfl, _⟩ := h
  rfl
theorem mul_low {i j : Int} (hi : i.natAbs < 2 ^ 100) (hj : j.natAbs < 2 ^ 100) : CMulW i j ∧ (i * j).natAbs < 2 ^ 200 :=
  ⟨wide_mul hi hj (by decide) (by decide) (by decide), by have := wide_lt hi hj; exact this⟩
theorem pow_low {i : Int} (h : i.natAbs < 2 ^ 200) : i.natAbs < 2 ^ 400 := Nat.lt_of_lt_of_le h (Nat.pow_le_pow_right (by decide) (by decide))
theorem sum_low {i j : Int} (hi : i.natAbs < 2 ^ 200) (hj : j.natAbs < 2 ^ 200) : (i + j).natAbs < 2 ^ 400 ∧ (i - j).natAbs < 2 ^ 400 := by
  have e : (2 : Nat) ^ 400 = 2 ^ 200 * 2 ^ 200 := by decide
  have l : 2 ^ 200 * 2 ≤ (2 : Nat) ^ 200 * 2 ^ 200 := Nat.mul_le_mul_left _ (by decide)
  constructor <;> omega
theorem prod_pos {b d : Int} (hb : 0 < b) (hd : 0 < d) : b * d ≠ 0 := by
  have := Int.mul_pos hb hd
  omega
def spAdd (K : PySem.W.Frag) : Sp := fun vs H Q _ => ∃ a b c d : Int, Two K H vs a b c d ∧ Fresh2 H Q (red (a * d + c * b) (b * d))
def spLess (K : PySem.W.Frag) : Sp := fun vs H Q _ => ∃ a b c d : Int, Two K H vs a b c d ∧ Fresh2 H Q (red (a * d - c * b) (b * d))
def spTimes (K : PySem.W.Frag) : Sp := fun vs H Q _ => ∃ a b c d : Int, Two K H vs a b c d ∧ Fresh2 H Q (red (a * c) (b * d))
def ixs {X : Cx} (i : Nat) {x : Str} {pos pos2 p3 : Pos} {j : Int} {k : Nat} (hN : X.N[i]? = some x := by rfl) (hv : Vis X.env.scope x := by first | exact Or.inl rfl | exact Or.inr (Or.inl rfl) | exact Or.inr (Or.inr rfl)) (hd : (x == ("__debug__" : Str)) = false := by decide)
    (hcd : (x == ("__classdict__" : Str)) = false := by decide) : PE X (.Subscript (.Name x pos) (.Constant (.int j) k pos2) p3) (tOp (rIxT X.K) (tVar i) (tC (.int j))) := pe_ix ix_tup (pv i hN hv hd hcd) pe_int (fun _ _ => rfl)
section
variable {fR : Addr} {fdR : FuncData} (R : At K mg "reduced" sRed ["n", "d"] fR fdR) (mG : mg "gcd" = some (.builtin "math.gcd"))
include R mG
theorem ok_add {f : Addr} {fd : FuncData} (F : At K mg "added" sAdd ["one", "other"] f fd) : FnOk P w K mg base CX0 2 f fd ["one", "other"] (spAdd K) := by
  have GR : FnOk P w K mg base CX0 1 fR fdR ["n", "d"] spRed := ok_red R mG
  refine F.fn.ok scAdd (fun vs H Q E ⟨a, b, c, d, h, _⟩ => two_len h) (fun cdv A outer s H vs Q E hr h => ?_)
  obtain ⟨a, b, c, d, ⟨p, q, rfl, hp, hq, la, lb, lc, ld, pb, pd⟩, fin⟩ := h
  refine ⟨_, pss_one (ps_ret (pe_call GR hr (by rfl) R.g R.fn.kp R.b .nil pass0 (pa_cons (pe_op op_add (pe_op op_mulW (ixs 0) (ixs 1)) (pe_op op_mulW (ixs 1) (ixs 0))) (pa_cons (pe_op op_mulW (ixs 0) (ixs 1)) pa_nil)))), ?_⟩
  refine ⟨_, rfl, p, _, 0, _, rfl, rfl, hp, rfl, _, rfl, q, _, 1, _, rfl, rfl, hq, rfl, a, d, rfl, rfl, (mul_low la ld).1, _, rfl, q, _, 0, _, rfl, rfl, hq, rfl, _, rfl, p, _, 1, _, rfl, rfl, hp, rfl, c, b, rfl, rfl, (mul_low lc lb).1, _, _, rfl, rfl, ?_⟩
  refine ⟨_, rfl, p, _, 1, _, rfl, rfl, hp, rfl, _, rfl, q, _, 1, _, rfl, rfl, hq, rfl, b, d, rfl, rfl, (mul_low lb ld).1, ?_⟩
  exact ⟨_, _, rfl, prod_pos pb pd, (sum_low (mul_low la ld).2 (mul_low lc lb).2).1, pow_low (mul_low lb ld).2, fin⟩
theorem ok_less {f : Addr} {fd : FuncData} (F : At K mg "lessened" sLess ["one", "other"] f fd) : FnOk P w K mg base CX0 2 f fd ["one", "other"] (spLess K) := by
  have GR : FnOk P w K mg base CX0 1 fR fdR ["n", "d"] spRed := ok_red R mG
  refine F.fn.ok scLess (fun vs H Q E ⟨a, b, c, d, h, _⟩ => two_len h) (fun cdv A outer s H vs Q E hr h => ?_)
  obtain ⟨a, b, c, d, ⟨p, q, rfl, hp, hq, la, lb, lc, ld, pb, pd⟩, fin⟩ := h
  refine ⟨_, pss_one (ps_ret (pe_call GR hr (by rfl) R.g R.fn.kp R.b .nil pass0 (pa_cons (pe_op op_sub (pe_op op_mulW (ixs 0) (ixs 1)) (pe_op op_mulW (ixs 1) (ixs 0))) (pa_cons (pe_op op_mulW (ixs 0) (ixs 1)) pa_nil)))), ?_⟩
  refine ⟨_, rfl, p, _, 0, _, rfl, rfl, hp, rfl, _, rfl, q, _, 1, _, rfl, rfl, hq, rfl, a, d, rfl, rfl, (mul_low la ld).1, _, rfl, q, _, 0, _, rfl, rfl, hq, rfl, _, rfl, p, _, 1, _, rfl, rfl, hp, rfl, c, b, rfl, rfl, (mul_low lc lb).1, _, _, rfl, rfl, ?_⟩
  refine ⟨_, rfl, p, _, 1, _, rfl, rfl, hp, rfl, _, rfl, q, _, 1, _, rfl, rfl, hq, rfl, b, d, rfl, rfl, (mul_low lb ld).1, ?_⟩
  exact ⟨_, _, rfl, prod_pos pb pd, (sum_low (mul_low la ld).2 (mul_low lc lb).2).2, pow_low (mul_low lb ld).2, fin⟩
theorem ok_times {f : Addr} {fd : FuncData} (F : At K mg "times" sTimes ["one", "other"] f fd) : FnOk P w K mg base CX0 2 f fd ["one", "other"] (spTimes K) := by
  have GR : FnOk P w K mg base CX0 1 fR fdR ["n", "d"] spRed := ok_red R mG
  refine F.fn.ok scTimes (fun vs H Q E ⟨a, b, c, d, h, _⟩ => two_len h) (fun cdv A outer s H vs Q E hr h => ?_)
  obtain ⟨a, b, c, d, ⟨p, q, rfl, hp, hq, la, lb, lc, ld, pb, pd⟩, fin⟩ := h
  refine ⟨_, pss_one (ps_ret (pe_call GR hr (by rfl) R.g R.fn.kp R.b .nil pass0 (pa_cons (pe_op op_mulW (ixs 0) (ixs 1)) (pa_cons (pe_op op_mulW (ixs 0) (ixs 1)) pa_nil)))), ?_⟩
  refine ⟨_, rfl, p, _, 0, _, rfl, rfl, hp, rfl, _, rfl, q, _, 0, _, rfl, rfl, hq, rfl, a, c, rfl, rfl, (mul_low la lc).1, ?_⟩
  refine ⟨_, rfl, p, _, 1, _, rfl, rfl, hp, rfl, _, rfl, q, _, 1, _, rfl, rfl, hq, rfl, b, d, rfl, rfl, (mul_low lb ld).1, ?_⟩
  exact ⟨_, _, rfl, prod_pos pb pd, pow_low (mul_low la lc).2, pow_low (mul_low lb ld).2, fin⟩
end
/-- -1, 0, 1 -/
def sgn (x y : Int) : Int := if x < y then -1 else if y < x then 1 else 0
def spComp (K : PySem.W.Frag) : Sp := fun vs H Q _ => ∃ a b c d : Int, Two K H vs a b c d ∧ Q (.int (sgn (a * d) (c * b))) H
theorem ok_comp {f : Addr} {fd : FuncData} (F : At K mg "compared" sComp ["one", "other"] f fd) : FnOk P w K mg base CX0 1 f fd ["one", "other"] (spComp K) := by
  refine F.fn.ok scComp (fun vs H Q E ⟨a, b, c, d, h, _⟩ => two_len h) (fun cdv A outer s H vs Q E hr h => ?_)
  obtain ⟨a, b, c, d, ⟨p, q, rfl, hp, hq, la, lb, lc, ld, pb, pd⟩, fin⟩ := h
  have nd := scComp.nd
  refine ⟨_, pss_cons (ps_set (i := 2) nd rfl (Or.inl rfl) (pe_op op_mulW (ixs 0) (ixs 1))) (pss_cons (ps_set (i := 3) nd rfl (Or.inl rfl) (pe_op op_mulW (ixs 1) (ixs 0)))
    (pss_cons (ps_if (pt_cmpR op_lt (pv 2) (pv 3) (nomark _)) (pss_one (ps_ret (pe_un un_neg pe_int))) pss_nil)
    (pss_cons (ps_if (pt_cmpR op_gt (pv 2) (pv 3) (nomark _)) (pss_one (ps_ret pe_int)) pss_nil) (pss_one (ps_ret pe_int))))), ?_⟩
  refine ⟨_, rfl, p, _, 0, _, rfl, rfl, hp, rfl, _, rfl, q, _, 1, _, rfl, rfl, hq, rfl, a, d, rfl, rfl, (mul_low la ld).1, ?_⟩
  refine ⟨_, rfl, q, _, 0, _, rfl, rfl, hq, rfl, _, rfl, p, _, 1, _, rfl, rfl, hp, rfl, c, b, rfl, rfl, (mul_low lc lb).1, ?_⟩
  refine ⟨_, rfl, _, rfl, _, _, rfl, rfl, _, rfl, ite2 (fun z => ?_) (fun z => ?_)⟩
  · have z' := of_decide_eq_true z
    refine ⟨1, rfl, ?_⟩
    have e : sgn (a * d) (c * b) = -1 := if_pos z'
    rw [e] at fin
    exact fin
  · have z' : ¬ a * d < c * b := fun y => z (decide_eq_true y)
    refine ⟨_, rfl, _, rfl, _, _, rfl, rfl, _, rfl, ite2 (fun y => ?_) (fun y => ?_)⟩
    · have e : sgn (a * d) (c * b) = 1 := by
        unfold sgn
        rw [if_neg z', if_pos (of_decide_eq_true y)]
      rw [e] at fin
      exact fin
    · have e : sgn (a * d) (c * b) = 0 := by
        unfold sgn
        rw [if_neg z', if_neg (fun x => y (decide_eq_true x))]
      rw [e] at fin
      exact fin
/-- the text of n / d -/
def ftext (n d : Int) : Str := if d = 1 then Str.ofString (toString n) else (Str.ofString (toString n) ++ Str.ofString "/") ++ Str.ofString (toString d)
def spText (K : PySem.W.Frag) : Sp := fun vs H Q _ => ∃ (p : Addr) (n d : Int), vs = [.ref p] ∧ SqT K H p [.int n, .int d] ∧ n.natAbs < 2 ^ 100 ∧ d.natAbs < 2 ^ 100 ∧ Q (.str (ftext n d)) H
theorem log_text {i : Int} (h : i.natAbs < 2 ^ 100) : i.natAbs.log2 < 1920 := Nat.lt_of_lt_of_le (PySem.Flt.log2_lt_of (by decide) h) (by decide)
theorem str_low {i : Int} (h : i.natAbs < 2 ^ 100) : (Str.ofString (toString i)).length ≤ 1921 := int_text_len_1921 (log_text h)
theorem ok_text {f : Addr} {fd : FuncData} (F : At K mg "fraction_text" sText ["one"] f fd) (ms : mg "str" = none) : FnOk P w K mg base CX0 1 f fd ["one"] (spText K) := by
  refine F.fn.ok scText (fun vs H Q E h => ?_) (fun cdv A outer s H vs Q E hr h => ?_)
  · obtain ⟨p, n, d, rfl, _⟩ := h
    rfl
  · obtain ⟨p, n, d, rfl, hp, ln, ld, fin⟩ := h
    have nd := scText.nd
    refine ⟨_, pss_cons (ps_asg (pv 0) (pg_tup rfl (pgs_cons (pg_name (i := 1) nd rfl (Or.inl rfl)) (pgs_cons (pg_name (i := 2) nd rfl (Or.inl rfl)) pgs_nil))))
      (pss_cons (ps_if (pt_cmpR op_eq (pv 2) pe_int (nomark _)) (pss_one (ps_ret (pe_callTy call_str_int (by rfl) ms (by decide +kernel) (pa_cons (pv 1) pa_nil)))) pss_nil)
      (pss_one (ps_ret (pe_joined (PJ.cons (pe_fmt (pv 1)) (PJ.cons pe_str (PJ.cons (pe_fmt (pv 2)) PJ.nil))))))), ?_⟩
    refine ⟨_, rfl, p, _, rfl, hp, rfl, _, _, rfl, _, _, rfl, rfl, ?_⟩
    refine ⟨_, rfl, rfl, _, rfl, ite2 (fun z => ?_) (fun z => ?_)⟩
    · have e : d = 1 := by
        have := of_decide_eq_true z
        injection this
      refine ⟨_, rfl, n, rfl, log_text ln, ?_⟩
      unfold ftext at fin
      rw [if_pos e] at fin
      exact fin
    · have e : d ≠ 1 := fun y => z (decide_eq_true (by rw [y]))
      unfold ftext at fin
      rw [if_neg e] at fin
      have l1 := str_low ln
      have l2 := str_low ld
      have l3 : (Str.ofString "/").length = 1 := by decide
      have l0 : (Str.empty).length = 0 := rfl
      refine ⟨_, rfl, .inr ⟨n, rfl, log_text ln, _, rfl, ?_, ?_⟩⟩
      · rw [strLen_append]
        exact len_line (by omega)
      · refine ⟨_, rfl, ?_, _, rfl, .inr ⟨d, rfl, log_text ld, _, rfl, ?_, ?_⟩⟩
        · rw [strLen_append, strLen_append]
          exact len_line (by omega)
        · rw [strLen_append, strLen_append, strLen_append]
          exact len_line (by omega)
        · have e0 : ∀ x : Str, Str.empty ++ x = x := fun x => PySem.Str.empty_append x
          rw [e0]
          exact fin
end
end K28

namespace K28
open PySem PySem.Spec PyProof.Rows L2 Vd Evl
abbrev sInt : Stmt := topS 26
abbrev sFrac : Stmt := topS 27
theorem scInt : FnScope ["bag", "small", "great", "many"] ["bag"] (defScope sInt) := ⟨rfl, rfl, rfl, by decide +kernel, rfl, by decide +kernel, by decide +kernel⟩
theorem scFrac : FnScope ["bag"] ["bag"] (defScope sFrac) := ⟨rfl, rfl, rfl, by decide +kernel, rfl, by decide +kernel, by decide +kernel⟩
theorem gz_turn {x y : Int} (hx : 0 ≤ x) (hy : 0 < y) : gz y (x % y) = gz x y := by
  obtain ⟨m, rfl⟩ := Int.eq_ofNat_of_zero_le hx
  obtain ⟨n, rfl⟩ := Int.eq_ofNat_of_zero_le (Int.le_of_lt hy)
  unfold gz
  have e : ((m : Int) % (n : Int)).natAbs = m % n := by
    rw [← Int.natCast_emod]
    rfl
  rw [e]
  show ((Nat.gcd n (m % n) : Nat) : Int) = ((Nat.gcd m n : Nat) : Int)
  rw [Nat.gcd_comm n (m % n), ← Nat.gcd_rec, Nat.gcd_comm]
theorem gz_zero {x : Int} (hx : 0 ≤ x) : gz x 0 = x := by
  unfold gz
  rw [show (0 : Int).natAbs = 0 from rfl, Nat.gcd_zero_right]
  omega
theorem gz_abs (a b : Int) : gz (if a < 0 then -a else a) (if b < 0 then -b else b) = gz a b := by
  unfold gz
  have e : ∀ c : Int, (if c < 0 then -c else c).natAbs = c.natAbs := fun c => by split <;> omega
  rw [e, e]
theorem abs_up (a : Int) : 0 ≤ (if a < 0 then -a else a) := by split <;> omega
def second (σ : L2.St) : Nat := match σ[1]? with
  | some (some (V.int y)) => y.toNat
  | _ => 0
section
variable {P : Program} {w : World} {K : PySem.W.Frag} {mg : Str → Option Value} {base : Heap}
def spLCom : Sp := fun vs H Q _ => ∃ a b : Int, vs = [.int a, .int b] ∧ Q (.int (gz a b)) H
theorem ok_lcom {f : Addr} {fd : FuncData} (F : At K mg "_law_common" sLCom ["one", "other"] f fd) (ma : mg "abs" = none) (mi : mg "int" = none) : FnOk P w K mg base CX0 1 f fd ["one", "other"] spLCom := by
  refine F.fn.ok scLCom (fun vs H Q E h => ?_) (fun cdv A outer s H vs Q E hr h => ?_)
  · obtain ⟨a, b, rfl, _⟩ := h
    rfl
  · obtain ⟨a, b, rfl, fin⟩ := h
    have nd := scLCom.nd
    refine ⟨_, pss_cons (ps_par (i := 0) (j := 1) (by rfl) nd rfl rfl (by decide) rfl rfl (pa_cons (pe_callB call_abs (by rfl) ma (by decide +kernel) (pa_cons (pv 0) pa_nil)) (pa_cons (pe_callB call_abs (by rfl) ma (by decide +kernel) (pa_cons (pv 1) pa_nil)) pa_nil)) (by rfl))
      (pss_cons (ps_while PassesOwn.never (pt_cmpR op_ne (pv 1) pe_int (nomark _)) (pss_one (ps_par (i := 0) (j := 1) (by rfl) nd rfl rfl (by decide) rfl rfl (pa_cons (pv 1) (pa_cons (pe_op op_mod (pe_callTy call_int1 (by rfl) mi (by decide +kernel) (pa_cons (pv 0) pa_nil)) (pv 1)) pa_nil)) (by rfl))))
      (pss_one (ps_ret (pv 0)))), ?_⟩
    refine ⟨_, rfl, a, rfl, _, rfl, b, rfl, _, _, rfl, ?_⟩
    refine while_by (fun σ G => ∃ x y : Int, σ = [some (.int x), some (.int y)] ∧ 0 ≤ x ∧ 0 ≤ y ∧ gz x y = gz a b ∧ G = H) (fun σ _ => second σ) ⟨_, _, rfl, abs_up a, abs_up b, gz_abs a b, rfl⟩ ?_ ?_
    · rintro _ _ ⟨x, y, rfl, hx, hy, e, rfl⟩
      refine ⟨_, rfl, rfl, _, rfl, ?_⟩
      by_cases z : y = 0
      · subst z
        rw [gz_zero hx] at e
        have t : (!decide (V.int 0 = V.int 0)) = false := by simp
        refine ite2 (fun no => by rw [t] at no; cases no) (fun _ => ⟨_, rfl, ?_⟩)
        rw [e]
        exact fin
      · have t : (!decide (V.int y = V.int 0)) = true := by simp [z]
        have hy' : 0 < y := by omega
        refine ite2 (fun _ => ?_) (fun no => absurd t no)
        refine ⟨_, rfl, _, rfl, .inl ⟨x, rfl, _, rfl, x, y, rfl, rfl, hy', _, _, rfl, ⟨y, x % y, rfl, hy, Int.emod_nonneg _ z, by rw [gz_turn hx hy', e], rfl⟩, ?_⟩⟩
        show (x % y).toNat < y.toNat
        have := Int.emod_lt_of_pos x hy'
        have := Int.emod_nonneg x z
        omega
    · rintro σ G Q1 Q2 imp ⟨v, e1, s1, k, e2, q⟩
      exact ⟨v, e1, s1, k, e2, imp _ _ q⟩
theorem ok_lred {f fC : Addr} {fd fdC : FuncData} (F : At K mg "_law_reduced" sLRed ["n", "d"] f fd) (C : At K mg "_law_common" sLCom ["one", "other"] fC fdC) (ma : mg "abs" = none) (mi : mg "int" = none) :
    FnOk P w K mg base CX0 2 f fd ["n", "d"] spRed := by
  have GC : FnOk P w K mg base CX0 1 fC fdC ["one", "other"] spLCom := ok_lcom C ma mi
  refine F.fn.ok scLRed (fun vs H Q E h => ?_) (fun cdv A outer s H vs Q E hr h => ?_)
  · obtain ⟨n, d, rfl, _⟩ := h
    rfl
  · obtain ⟨n, d, rfl, d0, ln, ld, q⟩ := h
    have nd := scLRed.nd
    refine ⟨_, pss_cut (ps_asg (pe_ifExp (pt_cmpR op_gt (pv 1) pe_int (nomark _)) (pe_tup (pa_cons (pv 0) (pa_cons (pv 1) pa_nil))) (pe_tup (pa_cons (pe_op op_sub pe_int (pv 0)) (pa_cons (pe_op op_sub pe_int (pv 1)) pa_nil))))
        (pg_tup rfl (pgs_cons (pg_name (i := 0) nd rfl (Or.inl rfl)) (pgs_cons (pg_name (i := 1) nd rfl (Or.inl rfl)) pgs_nil))))
      (pss_cons (ps_set (i := 2) nd rfl (Or.inl rfl) (pe_call GC hr (by rfl) C.g C.fn.kp C.b .nil pass0 (pa_cons (pv 0) (pa_cons (pv 1) pa_nil))))
      (pss_one (ps_ret (pe_tup (pa_cons (pe_op op_fdivW (pv 0) (pv 2)) (pa_cons (pe_op op_fdivW (pv 1) (pv 2)) pa_nil)))))), ?_⟩
    have gp := gz_pos (n := n) d0
    have gl := gz_low (n := n) d0 ld
    refine ⟨fun σ G => ∃ (m e : Int) (s2 : Option V), σ = [some (.int m), some (.int e), s2] ∧ Same H G ∧ gz m e = gz n d ∧ (m / gz n d, e / gz n d) = red n d, ?_, ?_⟩
    · refine ⟨_, rfl, _, _, rfl, rfl, _, rfl, ite2 (fun z => ?_) (fun z => ?_)⟩
      · have z' := of_decide_eq_true z
        refine ⟨_, rfl, _, rfl, len_line (by show 2 ≤ 100000; decide), fun p np => ?_⟩
        refine ⟨p, _, rfl, SqT.of upd_same, rfl, _, _, rfl, _, _, rfl, rfl, ?_⟩
        exact ⟨n, d, none, rfl, same_new np, rfl, (if_pos z').symm⟩
      · have z' : ¬ 0 < d := fun y => z (decide_eq_true y)
        refine ⟨_, rfl, 0, n, rfl, rfl, _, rfl, 0, d, rfl, rfl, len_line (by show 2 ≤ 100000; decide), fun p np => ?_⟩
        refine ⟨p, _, rfl, SqT.of upd_same, rfl, _, _, rfl, _, _, rfl, rfl, ?_⟩
        refine ⟨0 - n, 0 - d, none, rfl, same_new np, ?_, ?_⟩
        · rw [Int.zero_sub, Int.zero_sub, gz_neg]
        · rw [Int.zero_sub, Int.zero_sub]
          exact (if_neg z').symm
    · rintro _ G ⟨m, e, s2, rfl, same, eg, er⟩
      refine ⟨_, rfl, _, rfl, m, e, rfl, ?_⟩
      rw [eg]
      have lg : 0 < gz n d ∧ (gz n d).natAbs.log2 < 9000 := ⟨gp, log_low gl⟩
      refine ⟨_, rfl, _, rfl, m, gz n d, rfl, rfl, lg, _, rfl, _, rfl, e, gz n d, rfl, rfl, lg, len_line (by show 2 ≤ 100000; decide), fun p np => ?_⟩
      refine q _ p (same.trans (same_new np)) (same.free np) ?_
      rw [upd_same, ← er]

/-! ### drawn numbers -/
theorem But.free {b p : Addr} {H H' : Hp} (x : But b H H') (bag : BagAt H' b) (n : H' p = none) : p ≠ b ∧ H p = none := by
  obtain ⟨_, _, _, _, _, e, _⟩ := bag
  have ne : p ≠ b := fun z => by
    rw [z, e] at n
    cases n
  refine ⟨ne, ?_⟩
  cases e2 : H p with
  | none => rfl
  | some o =>
    rw [x.1 p o ne e2] at n
    cases n
theorem BagAt.new {H : Hp} {b p : Addr} {o : HO} (x : BagAt H b) (n : H p = none) : BagAt (upd H p o) b := by
  obtain ⟨x, y, z, c, ns, e1, e2, few⟩ := x
  exact ⟨x, y, z, c, ns, same_new n _ _ e1, same_new n _ _ e2, few⟩
def spInt : Sp := fun vs H Q _ => ∃ b : Addr, vs = [.ref b] ∧ BagAt H b ∧ ∀ H' i, But b H H' → BagAt H' b → i.natAbs ≤ 10 ^ 12 → Q (.int i) H'
section
variable {fT fS : Addr} {fdT fdS : FuncData} (T : At K mg "_law_take" sTake ["bag", "many"] fT fdT) (S : At K mg "_law_some" sSome ["bag", "things"] fS fdS) (mi : mg "int" = none) (ml : mg "len" = none)
include T S mi ml
theorem ok_int {f : Addr} {fd : FuncData} (F : At K mg "_law_integer" sInt ["bag"] f fd) : FnOk P w K mg base CX0 3 f fd ["bag"] spInt := by
  have GT : FnOk P w K mg base CX0 1 fT fdT ["bag", "many"] spTake := ok_take T.fn mi
  have GS : FnOk P w K mg base CX0 2 fS fdS ["bag", "things"] (spSome K) := ok_some S T mi ml
  refine F.fn.ok scInt (fun vs H Q E h => ?_) (fun cdv A outer s H vs Q E hr h => ?_)
  · obtain ⟨b, rfl, _⟩ := h
    rfl
  · obtain ⟨b, rfl, bag, fin⟩ := h
    have nd := scInt.nd
    have hr1 : Room 1 _ := hr.mono (by decide)
    refine ⟨_, pss_cons (ps_par (i := 1) (j := 2) (by rfl) nd rfl rfl (by decide) rfl rfl (pa_cons (pe_call GT hr1 (by rfl) T.g T.fn.kp T.b .nil pass0 (pa_cons (pv 0) (pa_cons pe_int pa_nil)))
        (pa_cons (pe_op op_sub (pe_op op_pow pe_int pe_int) (pe_call GT hr1 (by rfl) T.g T.fn.kp T.b .nil pass0 (pa_cons (pv 0) (pa_cons pe_int pa_nil)))) pa_nil)) (by rfl))
      (pss_cons (ps_set (i := 3) nd rfl (Or.inl rfl) (pe_call GS hr (by rfl) S.g S.fn.kp S.b .nil pass0 (pa_cons (pv 0) (pa_cons (pe_lst (pa_cons (pv 1) (pa_cons (pv 1) (pa_cons (pv 1) (pa_cons (pv 2) (pa_cons pe_int pa_nil)))))) pa_nil))))
      (pss_one (ps_ret (pe_ifExp (pt_cmpR op_gt (pe_call GT hr1 (by rfl) T.g T.fn.kp T.b .nil pass0 (pa_cons (pv 0) (pa_cons pe_int pa_nil))) pe_int (nomark _)) (pv 3) (pe_op op_sub pe_int (pv 3)))))), ?_⟩
    refine ⟨_, rfl, b, 13, rfl, bag, by decide, by decide, fun H1 u but1 bag1 u0 u1 => ?_⟩
    refine ⟨10, 12, rfl, rfl, ⟨by decide, by decide, by decide⟩, _, rfl, b, 999, rfl, bag1, by decide, by decide, fun H2 v but2 bag2 v0 v1 => ?_⟩
    refine ⟨_, v, rfl, rfl, _, _, rfl, ?_⟩
    refine ⟨_, rfl, _, rfl, _, rfl, _, rfl, _, rfl, len_line (by show 5 ≤ 100000; decide), fun p np => ?_⟩
    have pb := (But.free (But.refl b H2) bag2 np).1
    refine ⟨b, p, _, rfl, bag2.new np, .inl (SqL.of upd_same), pb, by show 0 < 5; decide, by show 5 < 1073741824; decide, fun H3 x mem but3 bag3 => ?_⟩
    obtain ⟨i, rfl, small⟩ : ∃ i, x = V.int i ∧ i.natAbs ≤ 10 ^ 12 := by
      simp only [List.mem_cons, List.not_mem_nil, or_false] at mem
      rcases mem with e | e | e | e | e
      · exact ⟨u, e, by omega⟩
      · exact ⟨u, e, by omega⟩
      · exact ⟨u, e, by omega⟩
      · refine ⟨_, e, ?_⟩
        show ((10 : Int) ^ 12 - v).natAbs ≤ 10 ^ 12
        omega
      · exact ⟨0, e, by decide⟩
    have all3 : But b H H3 := ((but1.trans but2).new np).trans but3
    refine ⟨_, rfl, b, 3, rfl, bag3, by decide, by decide, fun H4 t but4 bag4 _ _ => ?_⟩
    refine ⟨_, _, rfl, rfl, _, rfl, ite2 (fun _ => ?_) (fun _ => ?_)⟩
    · exact ⟨_, rfl, fin H4 i (all3.trans but4) bag4 small⟩
    · exact ⟨_, rfl, 0, i, rfl, rfl, fin H4 _ (all3.trans but4) bag4 (by omega)⟩

def spFrac : Sp := fun vs H Q _ => ∃ b : Addr, vs = [.ref b] ∧ BagAt H b ∧ ∀ H' p (i j : Int), But b H H' → BagAt H' b → H p = none → p ≠ b → H' p = some (.tup [.int (red i j).1, .int (red i j).2]) → i.natAbs ≤ 10 ^ 12 → 1 ≤ j → j ≤ 10 ^ 9 → Q (.ref p) H'
theorem ok_frac {f fR fC fI : Addr} {fd fdR fdC fdI : FuncData} (F : At K mg "_law_fraction" sFrac ["bag"] f fd) (R : At K mg "_law_reduced" sLRed ["n", "d"] fR fdR) (C : At K mg "_law_common" sLCom ["one", "other"] fC fdC) (I : At K mg "_law_integer" sInt ["bag"] fI fdI)
    (ma : mg "abs" = none) : FnOk P w K mg base CX0 4 f fd ["bag"] spFrac := by
  have GT : FnOk P w K mg base CX0 1 fT fdT ["bag", "many"] spTake := ok_take T.fn mi
  have GS : FnOk P w K mg base CX0 2 fS fdS ["bag", "things"] (spSome K) := ok_some S T mi ml
  have GI : FnOk P w K mg base CX0 3 fI fdI ["bag"] spInt := ok_int T S mi ml I
  have GR : FnOk P w K mg base CX0 2 fR fdR ["n", "d"] spRed := ok_lred R C ma mi
  refine F.fn.ok scFrac (fun vs H Q E h => ?_) (fun cdv A outer s H vs Q E hr h => ?_)
  · obtain ⟨b, rfl, _⟩ := h
    rfl
  · obtain ⟨b, rfl, bag, fin⟩ := h
    have hr1 : Room 1 _ := hr.mono (by decide)
    have hr2 : Room 2 _ := hr.mono (by decide)
    refine ⟨_, pss_one (ps_ret (pe_call GR hr2 (by rfl) R.g R.fn.kp R.b .nil pass0 (pa_cons (pe_call GI hr (by rfl) I.g I.fn.kp I.b .nil pass0 (pa_cons (pv 0) pa_nil))
      (pa_cons (pe_op op_add pe_int (pe_call GS hr2 (by rfl) S.g S.fn.kp S.b .nil pass0 (pa_cons (pv 0) (pa_cons (pe_lst (pa_cons pe_int (pa_cons (pe_call GT hr1 (by rfl) T.g T.fn.kp T.b .nil pass0 (pa_cons (pv 0) (pa_cons pe_int pa_nil)))
        (pa_cons (pe_call GT hr1 (by rfl) T.g T.fn.kp T.b .nil pass0 (pa_cons (pv 0) (pa_cons (pe_op op_pow pe_int pe_int) pa_nil))) pa_nil)))) pa_nil)))) pa_nil)))), ?_⟩
    refine ⟨_, rfl, b, rfl, bag, fun H1 i but1 bag1 small => ?_⟩
    refine ⟨_, rfl, _, rfl, b, 12, rfl, bag1, by decide, by decide, fun H2 u but2 bag2 u0 u1 => ?_⟩
    refine ⟨_, rfl, 10, 9, rfl, rfl, ⟨by decide, by decide, by decide⟩, b, 10 ^ 9, rfl, bag2, by decide, by decide, fun H3 v but3 bag3 v0 v1 => ?_⟩
    refine ⟨len_line (by show 3 ≤ 100000; decide), fun p np => ?_⟩
    have pb := (But.free (But.refl b H3) bag3 np).1
    refine ⟨b, p, _, rfl, bag3.new np, .inl (SqL.of upd_same), pb, by show 0 < 3; decide, by show 3 < 1073741824; decide, fun H4 x mem but4 bag4 => ?_⟩
    obtain ⟨k, rfl, k0, k1⟩ : ∃ k, x = V.int k ∧ 0 ≤ k ∧ k < 10 ^ 9 := by
      simp only [List.mem_cons, List.not_mem_nil, or_false] at mem
      rcases mem with e | e | e
      · exact ⟨0, e, by decide, by decide⟩
      · exact ⟨u, e, by omega, by omega⟩
      · exact ⟨v, e, v0, v1⟩
    have all4 : But b H H4 := ((((but1.trans but2).trans but3)).new np).trans but4
    have e12 : (10 : Nat) ^ 12 < 2 ^ 400 := by decide
    refine ⟨1, k, rfl, rfl, i, 1 + k, rfl, by omega, by omega, by omega, fun H5 q same nq at_q => ?_⟩
    have back := But.free all4 bag4 nq
    have bag5 : BagAt H5 b := by
      obtain ⟨x, y, z, c, ns, e1, e2, few⟩ := bag4
      exact ⟨x, y, z, c, ns, same _ _ e1, same _ _ e2, few⟩
    exact fin H5 q i (1 + k) (all4.trans (But.of same)) bag5 back.2 back.1 at_q small (by omega) (by omega)
end
end
end K28

namespace K28
open PySem PySem.Spec PyProof.Rows L2 Vd Evl
abbrev sOdd : Stmt := topS 23
theorem scOdd : FnScope ["bag", "some"] ["bag"] (defScope sOdd) := ⟨rfl, rfl, rfl, by decide +kernel, rfl, by decide +kernel, by decide +kernel⟩
theorem oddD {d : PyData} (h : decide (nice d = true ∧ wgt d ≤ 8000 ∧ d.depth ≤ 3) = true) : nice d = true ∧ wgt d ≤ 8000 ∧ d.depth ≤ 3 := of_decide_eq_true h
def Odd (d : PyData) : Prop := nice d = true ∧ wgt d ≤ 8000 ∧ d.depth ≤ 3
theorem Item.upF {K : PySem.W.Frag} {H G G' : Hp} {v : V} {d : PyData} (s : ∀ p o, H p = none → G p = some o → G' p = some o) (h : Item K H G v d) : Item K H G' v d := by
  rcases h with ⟨a, xs, ds, F, e1, e2, e3, e4, e5, e6, e7⟩ | ⟨e1, e2⟩
  · exact .inl ⟨a, xs, ds, F, e1, e2, e3, s _ _ e3 e4, fun p o e => ⟨(e5 p o e).1, s _ _ (e5 p o e).1 (e5 p o e).2⟩, e6, e7⟩
  · exact .inr ⟨e1, Dat.up (fun p o e => newP_of (newP_sub H G p o e).1 (s _ _ (newP_sub H G p o e).1 (newP_sub H G p o e).2)) e2⟩
section
variable {P : Program} {w : World} {K : PySem.W.Frag} {mg : Str → Option Value} {base : Heap}
def spOdd (K : PySem.W.Frag) : Sp := fun vs H Q _ => ∃ b : Addr, vs = [.ref b] ∧ BagAt H b ∧ ∀ H' v d, But b H H' → BagAt H' b → Item K H H' v d → Odd d → Q v H'
theorem BagAt.same {H G : Hp} {b : Addr} (x : BagAt H b) (s : Same H G) : BagAt G b := by
  obtain ⟨x, y, z, c, ns, e1, e2, few⟩ := x
  exact ⟨x, y, z, c, ns, s _ _ e1, s _ _ e2, few⟩
theorem BagAt.some_ {H : Hp} {b : Addr} (x : BagAt H b) : ∃ o, H b = some o := let ⟨_, _, _, _, _, e, _⟩ := x; ⟨_, e⟩
theorem lst_is {ta : TA} {n : Nat} {I : PyData → Prop} {σ : L2.St} {H0 H : Hp} (h : MkIs K H0 σ ta n I) (s : Same H0 H) (few : n ≤ 1000) {Q : VK}
    (q : ∀ xs G p, Same H G → xs.length = n → (∀ v ∈ xs, ∃ d, Item K H0 G v d ∧ I d) → G p = none → Q (.ref p) (upd G p (.lst xs))) : tLst ta σ H Q :=
  h H s _ fun xs G s1 len each => ⟨line1000 (by omega), fun p np => q xs G p s1 len each np⟩
theorem set_lst {ta : TA} {n : Nat} {I : PyData → Prop} {σ : L2.St} {H : Hp} {u : TS} {D : Ends} {i : Nat} (h : MkIs K H σ ta n I) (few : n ≤ 1000)
    (q : ∀ xs G p, Same H G → xs.length = n → (∀ v ∈ xs, ∃ d, Item K H G v d ∧ I d) → G p = none → u D (σ.set i (some (.ref p))) (upd G p (.lst xs))) : tSeq (tAsg (tLst ta) (gName i)) u D σ H :=
  lst_is (Q := fun v H1 => u D (σ.set i (some v)) H1) h (Same.refl H) few q
theorem ok_odd {f fT fS : Addr} {fd fdT fdS : FuncData} (F : At K mg "_law_odd" sOdd ["bag"] f fd) (T : At K mg "_law_take" sTake ["bag", "many"] fT fdT) (S : At K mg "_law_some" sSome ["bag", "things"] fS fdS) (mi : mg "int" = none) (ml : mg "len" = none) :
    FnOk P w K mg base CX0 3 f fd ["bag"] (spOdd K) := by
  have GS : FnOk P w K mg base CX0 2 fS fdS ["bag", "things"] (spSome K) := ok_some S T mi ml
  refine F.fn.ok scOdd (fun vs H Q E h => ?_) (fun cdv A outer s H vs Q E hr h => ?_)
  · obtain ⟨b, rfl, _⟩ := h
    rfl
  · obtain ⟨b, rfl, bag, fin⟩ := h
    have nd := scOdd.nd
    refine ⟨_, pss_cons (ps_set (i := 1) nd rfl (Or.inl rfl) (pe_lst (pa_cons pe_non (pa_cons pe_bl (pa_cons pe_bl (pa_cons pe_int (pa_cons pe_int (pa_cons (pe_un un_neg pe_int) (pa_cons (pe_op op_pow pe_int pe_int) (pa_cons pe_str (pa_cons pe_str (pa_cons pe_str
        (pa_cons (pe_tup pa_nil) (pa_cons (pe_lst pa_nil) (pa_cons pe_dnewK (pa_cons (pe_tup (pa_cons pe_int pa_nil)) (pa_cons (pe_tup (pa_cons pe_str pa_nil)) (pa_cons (pe_tup (pa_cons pe_str (pa_cons (pe_tup pa_nil) pa_nil))) (pa_cons (pe_tup (pa_cons pe_int (pa_cons pe_int pa_nil))) pa_nil)))))))))))))))))))
      (pss_one (ps_ret (pe_call GS hr (by rfl) S.g S.fn.kp S.b .nil pass0 (pa_cons (pv 0) (pa_cons (pe_op op_cat (pv 1) (pe_lst
        (pa_cons (pe_lst (pa_cons pe_str (pa_cons (pe_tup pa_nil) pa_nil))) (pa_cons (pe_tup (pa_cons pe_str (pa_cons pe_int pa_nil)))
        (pa_cons (pe_disp (pps_cons pe_str (pe_tup (pa_cons pe_int pa_nil)) pps_nil) (by rfl) (by rfl) (fun z => by cases z) (by decide))
        (pa_cons (pe_disp (pps_cons pe_int pe_int pps_nil) (by rfl) (by rfl) (fun z => by cases z) (by decide)) (pa_cons pe_str (pa_cons (pe_tup (pa_cons (pe_tup (pa_cons pe_str (pa_cons pe_str pa_nil))) pa_nil)) pa_nil)))))))) pa_nil))))), ?_⟩
    have first_ : MkIs K H [some (.ref b), none] _ 17 Odd := mkis_cons (mki_dat (mk_non) rfl (oddD (by decide +kernel)))
      (mkis_cons (mki_dat (mk_bl true) rfl (oddD (by decide +kernel)))
      (mkis_cons (mki_dat (mk_bl false) rfl (oddD (by decide +kernel)))
      (mkis_cons (mki_dat (mk_int 0) rfl (oddD (by decide +kernel)))
      (mkis_cons (mki_dat (mk_int 1) rfl (oddD (by decide +kernel)))
      (mkis_cons (mki_dat (mk_neg 1) rfl (oddD (by decide +kernel)))
      (mkis_cons (mki_dat (mk_pow (i := 10) (j := 39) ⟨by decide, by decide, by decide⟩) rfl (oddD (by decide +kernel)))
      (mkis_cons (mki_dat (mk_str "") rfl (oddD (by decide +kernel)))
      (mkis_cons (mki_dat (mk_str "fill") rfl (oddD (by decide +kernel)))
      (mkis_cons (mki_dat (mk_str "up") rfl (oddD (by decide +kernel)))
      (mkis_cons (mki_dat (mk_tup (mka_nil) (by decide)) rfl (oddD (by decide +kernel)))
      (mkis_cons (mki_lst (mka_nil) (by decide) (oddD (by decide +kernel)))
      (mkis_cons (mki_dat (mk_dic0) rfl (oddD (by decide +kernel)))
      (mkis_cons (mki_dat (mk_tup (mka_cons (mk_int 0) (mka_nil)) (by decide)) rfl (oddD (by decide +kernel)))
      (mkis_cons (mki_dat (mk_tup (mka_cons (mk_str "next") (mka_nil)) (by decide)) rfl (oddD (by decide +kernel)))
      (mkis_cons (mki_dat (mk_tup (mka_cons (mk_str "fill") (mka_cons (mk_tup (mka_nil) (by decide)) (mka_nil))) (by decide)) rfl (oddD (by decide +kernel)))
      (mkis_cons (mki_dat (mk_tup (mka_cons (mk_int 1) (mka_cons (mk_int 0) (mka_nil))) (by decide)) rfl (oddD (by decide +kernel)))
      (mkis_nil)))))))))))))))))
    have second_ : ∀ p, MkIs K H ([some (.ref b), some (.ref p)] : L2.St) _ 6 Odd := fun p => mkis_cons (mki_lst (mka_cons (mk_str "fill") (mka_cons (mk_tup (mka_nil) (by decide)) (mka_nil))) (by decide) (oddD (by decide +kernel)))
      (mkis_cons (mki_dat (mk_tup (mka_cons (mk_str "up") (mka_cons (mk_int 0) (mka_nil))) (by decide)) rfl (oddD (by decide +kernel)))
      (mkis_cons (mki_dat (mk_dic1 (k := Sum.inr "fill") fun _ => mk_tup (mka_cons (mk_int 0) (mka_nil)) (by decide)) rfl (oddD (by decide +kernel)))
      (mkis_cons (mki_dat (mk_dic1 (k := Sum.inl 0) fun _ => mk_int 1) rfl (oddD (by decide +kernel)))
      (mkis_cons (mki_dat (mk_str "a\n") rfl (oddD (by decide +kernel)))
      (mkis_cons (mki_dat (mk_tup (mka_cons (mk_tup (mka_cons (mk_str "next") (mka_cons (mk_str "fill") (mka_nil))) (by decide)) (mka_nil)) (by decide)) rfl (oddD (by decide +kernel)))
      (mkis_nil))))))
    refine set_lst first_ (by decide) fun xs G1 p s1 len1 each1 np => ?_
    refine ⟨_, rfl, _, rfl, ?_⟩
    refine lst_is (second_ p) (s1.trans (same_upd1 np)) (by decide) fun ys G2 p2 s2 len2 each2 np2 => ?_
    have at_p : G2 p = some (.lst xs) := s2 _ _ upd_same
    have pp : p ≠ p2 := ne_of_none at_p np2
    refine ⟨p, p2, xs, ys, rfl, rfl, same_upd1 np2 _ _ at_p, upd_same, line1000 (by omega), fun p3 np3 => ?_⟩
    have s3 : Same H (upd (upd G2 p2 (.lst ys)) p3 (.lst (xs ++ ys))) := ((s1.trans (same_upd1 np)).trans s2).trans ((same_upd1 np2).trans (same_upd1 np3))
    have bag3 := bag.same s3
    have p3b : p3 ≠ b := by
      obtain ⟨o, e⟩ := (bag.same (((s1.trans (same_upd1 np)).trans s2).trans (same_upd1 (o := .lst ys) np2))).some_
      exact fun z => by rw [z, e] at np3; cases np3
    refine ⟨b, p3, xs ++ ys, rfl, bag3, .inl (SqL.of upd_same), p3b, by rw [List.length_append]; omega, by rw [List.length_append]; omega, fun H4 v mem but4 bag4 => ?_⟩
    obtain ⟨ob, eb⟩ := bag.some_
    have up : ∀ {G : Hp}, Same G (upd (upd G2 p2 (.lst ys)) p3 (.lst (xs ++ ys))) → ∀ q o, H q = none → G q = some o → H4 q = some o := fun s q o n e =>
      but4.1 q o (fun z => by rw [z, eb] at n; cases n) (s _ _ e)
    rcases List.mem_append.mp mem with m | m
    · obtain ⟨d, it, od⟩ := each1 v m
      exact fin H4 v d ((But.of s3).trans but4) bag4 (Item.upF (up ((same_upd1 np).trans (s2.trans ((same_upd1 np2).trans (same_upd1 np3))))) it) od
    · obtain ⟨d, it, od⟩ := each2 v m
      exact fin H4 v d ((But.of s3).trans but4) bag4 (Item.upF (up ((same_upd1 np2).trans (same_upd1 np3))) it) od
end
end K28

namespace K28
open PySem PySem.Spec PyProof.Rows L2 Vd Evl
/-! ### the errors' constructors -/
abbrev iIni (i : Nat) : Stmt := inClass (topS i) 0
def spIni (K : PySem.W.Frag) (C : Addr) (fld : Str) : Sp := fun vs H Q _ => ∃ (a : Addr) (y : V), vs = [.ref a, y] ∧ OexC K C ∧ PySem.W.findIn K (.ref C) fld = some none ∧ H a = some (exo a C none) ∧
  ∀ d, H d = none → d ≠ a → Q .non (upd (upd H d (exd d [(fld, y)])) a (exo a C (some d)))
/-- what the written part says of an own error with one field -/
structure ErC (K : PySem.W.Frag) (mg : Str → Option Value) (x fld qual : Str) (st : Stmt) (C f : Addr) (fd : FuncData) : Prop where
  oex : OexC K C
  xc : XC K C
  init : PySem.W.findIn K (.ref C) "__init__" = some (some (.ref f))
  isf : PySem.W.typeIn K (.ref f) = some (.type "function")
  nof : PySem.W.findIn K (.ref C) fld = some none
  fn : Fun K "__init__" qual st f fd
  b : Binds K fd ["self", fld] []
  g : mg x = some (.ref C)
theorem sc10 : FnScope ["self", "place"] ["self", "place"] (defScope (iIni 10)) := ⟨rfl, rfl, rfl, by decide +kernel, rfl, by decide +kernel, by decide +kernel⟩
theorem sc11 : FnScope ["self", "line"] ["self", "line"] (defScope (iIni 11)) := ⟨rfl, rfl, rfl, by decide +kernel, rfl, by decide +kernel, by decide +kernel⟩
theorem sc12 : FnScope ["self", "ring"] ["self", "ring"] (defScope (iIni 12)) := ⟨rfl, rfl, rfl, by decide +kernel, rfl, by decide +kernel, by decide +kernel⟩
theorem sc13 : FnScope ["self", "most"] ["self", "most"] (defScope (iIni 13)) := ⟨rfl, rfl, rfl, by decide +kernel, rfl, by decide +kernel, by decide +kernel⟩
theorem sc14 : FnScope ["self", "name"] ["self", "name"] (defScope (iIni 14)) := ⟨rfl, rfl, rfl, by decide +kernel, rfl, by decide +kernel, by decide +kernel⟩
theorem sc15 : FnScope ["self", "index"] ["self", "index"] (defScope (iIni 15)) := ⟨rfl, rfl, rfl, by decide +kernel, rfl, by decide +kernel, by decide +kernel⟩
section
variable {P : Program} {w : World} {K : PySem.W.Frag} {mg : Str → Option Value} {base : Heap}
theorem ini10 {C f : Addr} {fd : FuncData} (F : ErC K mg "Wrong" "place" "Wrong.__init__" (iIni 10) C f fd) : FnOk P w K mg base CX0 1 f fd ["self", "place"] (spIni K C "place") := by
  refine Fun.ok (F).fn sc10 (fun vs H Q E h => ?_) (fun cdv A outer s H vs Q E hr h => ?_)
  · obtain ⟨a, y, e, _⟩ := h
    rw [e]
    rfl
  · obtain ⟨a, y, e, oex, no, at_a, q⟩ := h
    subst e
    refine ⟨_, pss_one (ps_ost (pv 0) (pv 1)), ?_⟩
    exact ⟨_, rfl, _, rfl, a, _, rfl, oex, no, .inl ⟨at_a, q⟩⟩
theorem ini11 {C f : Addr} {fd : FuncData} (F : ErC K mg "NoText" "line" "NoText.__init__" (iIni 11) C f fd) : FnOk P w K mg base CX0 1 f fd ["self", "line"] (spIni K C "line") := by
  refine Fun.ok (F).fn sc11 (fun vs H Q E h => ?_) (fun cdv A outer s H vs Q E hr h => ?_)
  · obtain ⟨a, y, e, _⟩ := h
    rw [e]
    rfl
  · obtain ⟨a, y, e, oex, no, at_a, q⟩ := h
    subst e
    refine ⟨_, pss_one (ps_ost (pv 0) (pv 1)), ?_⟩
    exact ⟨_, rfl, _, rfl, a, _, rfl, oex, no, .inl ⟨at_a, q⟩⟩
theorem ini12 {C f : Addr} {fd : FuncData} (F : ErC K mg "Dead" "ring" "Dead.__init__" (iIni 12) C f fd) : FnOk P w K mg base CX0 1 f fd ["self", "ring"] (spIni K C "ring") := by
  refine Fun.ok (F).fn sc12 (fun vs H Q E h => ?_) (fun cdv A outer s H vs Q E hr h => ?_)
  · obtain ⟨a, y, e, _⟩ := h
    rw [e]
    rfl
  · obtain ⟨a, y, e, oex, no, at_a, q⟩ := h
    subst e
    refine ⟨_, pss_one (ps_ost (pv 0) (pv 1)), ?_⟩
    exact ⟨_, rfl, _, rfl, a, _, rfl, oex, no, .inl ⟨at_a, q⟩⟩
theorem ini13 {C f : Addr} {fd : FuncData} (F : ErC K mg "TooMany" "most" "TooMany.__init__" (iIni 13) C f fd) : FnOk P w K mg base CX0 1 f fd ["self", "most"] (spIni K C "most") := by
  refine Fun.ok (F).fn sc13 (fun vs H Q E h => ?_) (fun cdv A outer s H vs Q E hr h => ?_)
  · obtain ⟨a, y, e, _⟩ := h
    rw [e]
    rfl
  · obtain ⟨a, y, e, oex, no, at_a, q⟩ := h
    subst e
    refine ⟨_, pss_one (ps_ost (pv 0) (pv 1)), ?_⟩
    exact ⟨_, rfl, _, rfl, a, _, rfl, oex, no, .inl ⟨at_a, q⟩⟩
theorem ini14 {C f : Addr} {fd : FuncData} (F : ErC K mg "NoMachine" "name" "NoMachine.__init__" (iIni 14) C f fd) : FnOk P w K mg base CX0 1 f fd ["self", "name"] (spIni K C "name") := by
  refine Fun.ok (F).fn sc14 (fun vs H Q E h => ?_) (fun cdv A outer s H vs Q E hr h => ?_)
  · obtain ⟨a, y, e, _⟩ := h
    rw [e]
    rfl
  · obtain ⟨a, y, e, oex, no, at_a, q⟩ := h
    subst e
    refine ⟨_, pss_one (ps_ost (pv 0) (pv 1)), ?_⟩
    exact ⟨_, rfl, _, rfl, a, _, rfl, oex, no, .inl ⟨at_a, q⟩⟩
theorem ini15 {C f : Addr} {fd : FuncData} (F : ErC K mg "NoBelt" "index" "NoBelt.__init__" (iIni 15) C f fd) : FnOk P w K mg base CX0 1 f fd ["self", "index"] (spIni K C "index") := by
  refine Fun.ok (F).fn sc15 (fun vs H Q E h => ?_) (fun cdv A outer s H vs Q E hr h => ?_)
  · obtain ⟨a, y, e, _⟩ := h
    rw [e]
    rfl
  · obtain ⟨a, y, e, oex, no, at_a, q⟩ := h
    subst e
    refine ⟨_, pss_one (ps_ost (pv 0) (pv 1)), ?_⟩
    exact ⟨_, rfl, _, rfl, a, _, rfl, oex, no, .inl ⟨at_a, q⟩⟩

/-! ### a lot of errors -/
/-- v: an error of the class C, its field, what it keeps -/
def Row (H : Hp) (C : Addr) (fld : Str) (x v : V) : Prop := ∃ t e d : Addr, v = .ref t ∧ H t = some (.tup [.ref e, .str fld, x]) ∧ H e = some (exo e C (some d)) ∧ H d = some (exd d [(fld, x)])
def Bare (H : Hp) (C : Addr) (v : V) : Prop := ∃ t e : Addr, v = .ref t ∧ H t = some (.tup [.ref e, .non, .non]) ∧ H e = some (exo e C none)
theorem Row.up {H G : Hp} {C : Addr} {fld : Str} {x v : V} (s : Same H G) (h : Row H C fld x v) : Row G C fld x v := by
  obtain ⟨t, e, d, r, h1, h2, h3⟩ := h
  exact ⟨t, e, d, r, s _ _ h1, s _ _ h2, s _ _ h3⟩
theorem Bare.up {H G : Hp} {C : Addr} {v : V} (s : Same H G) (h : Bare H C v) : Bare G C v := by
  obtain ⟨t, e, r, h1, h2⟩ := h
  exact ⟨t, e, r, s _ _ h1, s _ _ h2⟩
/-- the classes, by their places -/
structure Cs where
  a : Addr
  b : Addr
  c : Addr
  d : Addr
  e : Addr
  f : Addr
  g : Addr
  h : Addr
def Lot (H : Hp) (C : Cs) (l : Addr) (one two : V) : Prop := ∃ v0 v1 v2 v3 v4 v5 v6 v7 : V, H l = some (.lst [v0, v1, v2, v3, v4, v5, v6, v7]) ∧
  Row H C.a "place" one v0 ∧ Row H C.b "line" two v1 ∧ Row H C.c "ring" one v2 ∧ Row H C.d "most" two v3 ∧ Row H C.e "name" one v4 ∧ Row H C.f "index" two v5 ∧ Bare H C.g v6 ∧ Bare H C.h v7
abbrev sErr : Stmt := topS 28
theorem scErr : FnScope ["one", "two", "found"] ["one", "two"] (defScope sErr) := ⟨rfl, rfl, rfl, by decide +kernel, rfl, by decide +kernel, by decide +kernel⟩
def spErr (C : Cs) : Sp := fun vs H Q _ => ∃ one two : V, vs = [one, two] ∧ ∀ H' l, Same H H' → H l = none → Lot H' C l one two → Q (.ref l) H'
/-- all that the written part says of the errors -/
structure Ers (P : Program) (K : PySem.W.Frag) (mg : Str → Option Value) (C : Cs) : Prop where
  a : ∃ f fd, ErC K mg "Wrong" "place" "Wrong.__init__" (iIni 10) C.a f fd
  b : ∃ f fd, ErC K mg "NoText" "line" "NoText.__init__" (iIni 11) C.b f fd
  c : ∃ f fd, ErC K mg "Dead" "ring" "Dead.__init__" (iIni 12) C.c f fd
  d : ∃ f fd, ErC K mg "TooMany" "most" "TooMany.__init__" (iIni 13) C.d f fd
  e : ∃ f fd, ErC K mg "NoMachine" "name" "NoMachine.__init__" (iIni 14) C.e f fd
  f : ∃ f fd, ErC K mg "NoBelt" "index" "NoBelt.__init__" (iIni 15) C.f f fd
  g : ∃ f, SuC P K mg C.g f
  h : ∃ f, SuC P K mg C.h f
  gg : mg "NoCommand" = some (.ref C.g)
  gh : mg "Nothing" = some (.ref C.h)
  xg : XC K C.g
  xh : XC K C.h
/-- what making an error asks, where all of it is at hand -/
theorem made {H : Hp} {K : PySem.W.Frag} {C : Addr} {fld : Str} {y : V} {Q : VK} (T : OexC K C) (no : PySem.W.findIn K (.ref C) fld = some none)
    (q : ∀ G a d, Same H G → G a = some (exo a C (some d)) → G d = some (exd d [(fld, y)]) → Q (.ref a) G) :
    ([y] : List V).length ≤ 1000 ∧ ∀ a, H a = none → spIni K C fld (.ref a :: [y]) (upd H a (exo a C none)) (fun v H2 => v = .non ∧ Q (.ref a) H2) E0 := by
  refine ⟨by show 1 ≤ 1000; decide, fun a na => ⟨a, y, rfl, T, no, upd_same, fun d nd ne => ⟨rfl, ?_⟩⟩⟩
  refine q _ a d (fun b o e => ?_) upd_same (by rw [upd_ne ne, upd_same])
  rw [upd_ne (ne_of_none e na), upd_ne (fun z => ?_), upd_ne (ne_of_none e na)]
  · exact e
  · have : upd H a (exo a C none) b = some o := by rw [upd_ne (ne_of_none e na)]; exact e
    rw [z, nd] at this
    cases this
/-- e makes a value of which P is so, all that stood staying -/
def MkR (σ : L2.St) (te : TE) (P : Hp → V → Prop) : Prop := ∀ (H : Hp) (Q : VK), (∀ G v, Same H G → P G v → Q v G) → te σ H Q
def Up (P : Hp → V → Prop) : Prop := ∀ H G v, Same H G → P H v → P G v
theorem lst3 {σ : L2.St} {t1 t2 t3 : TE} {P1 P2 P3 : Hp → V → Prop} (m1 : MkR σ t1 P1) (m2 : MkR σ t2 P2) (m3 : MkR σ t3 P3) (u1 : Up P1) (u2 : Up P2) (u3 : Up P3) {H : Hp} {Q : VK}
    (q : ∀ G p v1 v2 v3, Same H G → H p = none → G p = some (.lst [v1, v2, v3]) → P1 G v1 → P2 G v2 → P3 G v3 → Q (.ref p) G) : tLst (tCons t1 (tCons t2 (tCons t3 tNil))) σ H Q :=
  m1 H _ fun G1 v1 s1 p1 => m2 G1 _ fun G2 v2 s2 p2 => m3 G2 _ fun G3 v3 s3 p3 => ⟨len_line (by show 3 ≤ 100000; decide), fun p np =>
    have s4 := same_new (o := .lst [v1, v2, v3]) np
    q _ p v1 v2 v3 (((s1.trans s2).trans s3).trans s4) (((s1.trans s2).trans s3).free np) upd_same (u1 _ _ _ ((s2.trans s3).trans s4) p1) (u2 _ _ _ (s3.trans s4) p2) (u3 _ _ _ s4 p3)⟩
theorem lst2 {σ : L2.St} {t1 t2 : TE} {P1 P2 : Hp → V → Prop} (m1 : MkR σ t1 P1) (m2 : MkR σ t2 P2) (u1 : Up P1) (u2 : Up P2) {H : Hp} {Q : VK}
    (q : ∀ G p v1 v2, Same H G → H p = none → G p = some (.lst [v1, v2]) → P1 G v1 → P2 G v2 → Q (.ref p) G) : tLst (tCons t1 (tCons t2 tNil)) σ H Q :=
  m1 H _ fun G1 v1 s1 p1 => m2 G1 _ fun G2 v2 s2 p2 => ⟨len_line (by show 2 ≤ 100000; decide), fun p np =>
    have s4 := same_new (o := .lst [v1, v2]) np
    q _ p v1 v2 ((s1.trans s2).trans s4) ((s1.trans s2).free np) upd_same (u1 _ _ _ (s2.trans s4) p1) (u2 _ _ _ s4 p2)⟩
theorem row_mk {σ : L2.St} {i : Nat} {y : V} {K : PySem.W.Frag} {C : Addr} {fld : Str} (at_i : σ[i]? = some (some y)) (T : OexC K C) (no : PySem.W.findIn K (.ref C) fld = some none) :
    MkR σ (tTup (tCons (fun σ H Q => (tCons (tVar i) tNil) σ H fun vs H1 => vs.length ≤ 1000 ∧ ∀ a, H1 a = none → spIni K C fld (.ref a :: vs) (upd H1 a (exo a C none)) (fun v H2 => v = .non ∧ Q (.ref a) H2) E0)
      (tCons (tC (.str fld)) (tCons (tVar i) tNil)))) (fun G v => Row G C fld y v) := fun H Q q => by
  have core : ∀ R : VK, (∀ G a d, Same H G → G a = some (exo a C (some d)) → G d = some (exd d [(fld, y)]) → R (.ref a) G) →
      (tCons (tVar i) tNil) σ H fun vs H1 => vs.length ≤ 1000 ∧ ∀ a, H1 a = none → spIni K C fld (.ref a :: vs) (upd H1 a (exo a C none)) (fun v H2 => v = .non ∧ R (.ref a) H2) E0 := fun R r => ⟨y, at_i, made T no r⟩
  exact core (fun v H2 => (tCons (tC (.str fld)) (tCons (tVar i) tNil)) σ H2 fun xs H3 => (v :: xs).length ≤ sizeLine ∧ ∀ p, H3 p = none → Q (.ref p) (upd H3 p (.tup (v :: xs)))) fun G a d s h1 h2 =>
    ⟨y, at_i, len_line (by show 3 ≤ 100000; decide), fun p np =>
      have s4 := same_new (o := .tup [.ref a, .str fld, y]) np
      q _ _ (s.trans s4) ⟨p, a, d, rfl, upd_same, s4 _ _ h1, s4 _ _ h2⟩⟩
theorem bare_mk {σ : L2.St} {C : Addr} : MkR σ (tTup (tCons (fun _ H Q => ∀ a, H a = none → Q (.ref a) (upd H a (exo a C none))) (tCons (tC .non) (tCons (tC .non) tNil)))) (fun G v => Bare G C v) := fun H Q q => fun a na =>
  ⟨len_line (by show 3 ≤ 100000; decide), fun p np =>
    have s4 := same_new (o := .tup [.ref a, .non, .non]) np
    q _ _ ((same_new na).trans s4) ⟨p, a, rfl, upd_same, s4 _ _ upd_same⟩⟩
theorem row_up {C : Addr} {fld : Str} {y : V} : Up (fun G v => Row G C fld y v) := fun _ _ _ s h => h.up s
theorem bare_up {C : Addr} : Up (fun G v => Bare G C v) := fun _ _ _ s h => h.up s
theorem set_te {te : TE} {σ : L2.St} {H : Hp} {u : TS} {D : Ends} {i : Nat} (h : te σ H fun v H1 => u D (σ.set i (some v)) H1) : tSeq (tAsg te (gName i)) u D σ H := h
theorem exo_lst {e C : Addr} {d : Option Addr} {xs : List V} : exo e C d ≠ .lst xs := fun z => by
  have z' : HO.ext _ = HO.lst xs := z
  cases z'
theorem exd_lst {e : Addr} {fs : List (Str × V)} {xs : List V} : exd e fs ≠ .lst xs := fun z => by
  have z' : HO.ext _ = HO.lst xs := z
  cases z'
theorem Row.put {G : Hp} {C p : Addr} {fld : Str} {y v : V} {xs : List V} {o : HO} (at_p : G p = some (.lst xs)) (h : Row G C fld y v) : Row (upd G p o) C fld y v := by
  obtain ⟨t, e, d, r, h1, h2, h3⟩ := h
  refine ⟨t, e, d, r, ?_, ?_, ?_⟩
  · rw [upd_ne (ne_of h1 at_p (fun z => by cases z))]
    exact h1
  · rw [upd_ne (ne_of h2 at_p exo_lst)]
    exact h2
  · rw [upd_ne (ne_of h3 at_p exd_lst)]
    exact h3
theorem Bare.put {G : Hp} {C p : Addr} {v : V} {xs : List V} {o : HO} (at_p : G p = some (.lst xs)) (h : Bare G C v) : Bare (upd G p o) C v := by
  obtain ⟨t, e, r, h1, h2⟩ := h
  refine ⟨t, e, r, ?_, ?_⟩
  · rw [upd_ne (ne_of h1 at_p (fun z => by cases z))]
    exact h1
  · rw [upd_ne (ne_of h2 at_p exo_lst)]
    exact h2
theorem ok_err {C : Cs} (Z : Ers P K mg C) {f : Addr} {fd : FuncData} (F : At K mg "_law_errors" sErr ["one", "two"] f fd) : FnOk P w K mg base CX0 3 f fd ["one", "two"] (spErr C) := by
  obtain ⟨fa, da, Ea⟩ := Z.a
  obtain ⟨fb, db, Eb⟩ := Z.b
  obtain ⟨fc, dc, Ec⟩ := Z.c
  obtain ⟨fd', dd, Ed⟩ := Z.d
  obtain ⟨fe, de, Ee⟩ := Z.e
  obtain ⟨ff, df, Ef⟩ := Z.f
  obtain ⟨fg, Eg⟩ := Z.g
  obtain ⟨fh, Eh⟩ := Z.h
  have Ga : FnOk P w K mg base CX0 1 fa da ["self", "place"] (spIni K C.a "place") := ini10 Ea
  have Gb : FnOk P w K mg base CX0 1 fb db ["self", "line"] (spIni K C.b "line") := ini11 Eb
  have Gc : FnOk P w K mg base CX0 1 fc dc ["self", "ring"] (spIni K C.c "ring") := ini12 Ec
  have Gd : FnOk P w K mg base CX0 1 fd' dd ["self", "most"] (spIni K C.d "most") := ini13 Ed
  have Ge : FnOk P w K mg base CX0 1 fe de ["self", "name"] (spIni K C.e "name") := ini14 Ee
  have Gf : FnOk P w K mg base CX0 1 ff df ["self", "index"] (spIni K C.f "index") := ini15 Ef
  refine F.fn.ok scErr (fun vs H Q E h => ?_) (fun cdv A outer s H vs Q E hr h => ?_)
  · obtain ⟨one, two, rfl, _⟩ := h
    rfl
  · obtain ⟨one, two, rfl, q⟩ := h
    have nd := scErr.nd
    refine ⟨_, pss_cons (ps_set (i := 2) nd rfl (Or.inl rfl) (pe_lst
        (pa_cons (pe_tup (pa_cons (pe_mkx Ea.oex Ea.init Ea.isf Ga hr Ea.b (by rfl) Ea.g (pa_cons (pv 0) pa_nil)) (pa_cons pe_str (pa_cons (pv 0) pa_nil))))
        (pa_cons (pe_tup (pa_cons (pe_mkx Eb.oex Eb.init Eb.isf Gb hr Eb.b (by rfl) Eb.g (pa_cons (pv 1) pa_nil)) (pa_cons pe_str (pa_cons (pv 1) pa_nil))))
        (pa_cons (pe_tup (pa_cons (pe_mkx Ec.oex Ec.init Ec.isf Gc hr Ec.b (by rfl) Ec.g (pa_cons (pv 0) pa_nil)) (pa_cons pe_str (pa_cons (pv 0) pa_nil)))) pa_nil)))))
      (pss_cons (ps_expr (pe_bm PySem.F.plainAttrs_list PySem.F.slot_list_extend PySem.F.type_list_extend mt_extend (pv 2) (pa_cons (pe_lst
        (pa_cons (pe_tup (pa_cons (pe_mkx Ed.oex Ed.init Ed.isf Gd hr Ed.b (by rfl) Ed.g (pa_cons (pv 1) pa_nil)) (pa_cons pe_str (pa_cons (pv 1) pa_nil))))
        (pa_cons (pe_tup (pa_cons (pe_mkx Ee.oex Ee.init Ee.isf Ge hr Ee.b (by rfl) Ee.g (pa_cons (pv 0) pa_nil)) (pa_cons pe_str (pa_cons (pv 0) pa_nil))))
        (pa_cons (pe_tup (pa_cons (pe_mkx Ef.oex Ef.init Ef.isf Gf hr Ef.b (by rfl) Ef.g (pa_cons (pv 1) pa_nil)) (pa_cons pe_str (pa_cons (pv 1) pa_nil)))) pa_nil)))) pa_nil)))
      (pss_one (ps_ret (pe_op op_cat (pv 2) (pe_lst
        (pa_cons (pe_tup (pa_cons (pe_mks Eg hr (by rfl) Z.gg) (pa_cons pe_non (pa_cons pe_non pa_nil))))
        (pa_cons (pe_tup (pa_cons (pe_mks Eh hr (by rfl) Z.gh) (pa_cons pe_non (pa_cons pe_non pa_nil)))) pa_nil))))))), ?_⟩
    refine set_te (lst3 (row_mk rfl Ea.oex Ea.nof) (row_mk rfl Eb.oex Eb.nof) (row_mk rfl Ec.oex Ec.nof) row_up row_up row_up fun G1 p v0 v1 v2 s1 n1 at_p r0 r1 r2 => ?_)
    refine ⟨_, rfl, .inl ⟨rfl, _, SqL.of at_p⟩, ?_⟩
    refine lst3 (row_mk rfl Ed.oex Ed.nof) (row_mk rfl Ee.oex Ee.nof) (row_mk rfl Ef.oex Ef.nof) row_up row_up row_up fun G2 p2 v3 v4 v5 s2 n2 at_p2 r3 r4 r5 => ?_
    have at_p' := s2 _ _ at_p
    refine ⟨p, p2, _, _, rfl, rfl, at_p', at_p2, len_line (by show 6 ≤ 100000; decide), ?_⟩
    refine ⟨_, rfl, lst2 bare_mk bare_mk bare_up bare_up fun G3 p3 v6 v7 s3 n3 at_p3 r6 r7 => ?_⟩
    refine ⟨p, p3, _, _, rfl, rfl, s3 _ _ upd_same, at_p3, len_line (by show 8 ≤ 100000; decide), fun p4 n4 => ?_⟩
    have s4 : Same G3 (upd G3 p4 (.lst ([v0, v1, v2] ++ [v3, v4, v5] ++ [v6, v7]))) := same_new n4
    have sU : Same H (upd G2 p (.lst ([v0, v1, v2] ++ [v3, v4, v5]))) := fun b o e => by
      rw [upd_ne (ne_of_none e n1)]
      exact s2 _ _ (s1 _ _ e)
    have s34 := s3.trans s4
    refine q _ p4 (sU.trans s34) ((sU.trans s3).free n4) ⟨v0, v1, v2, v3, v4, v5, v6, v7, upd_same, ?_, ?_, ?_, ?_, ?_, ?_, r6.up s4, r7.up s4⟩
    · exact ((r0.up s2).put at_p').up s34
    · exact ((r1.up s2).put at_p').up s34
    · exact ((r2.up s2).put at_p').up s34
    · exact (r3.put at_p').up s34
    · exact (r4.put at_p').up s34
    · exact (r5.put at_p').up s34
end
end K28

namespace K28
open PySem PySem.Spec PyProof.Rows L2 Vd Evl
section
variable {P : Program} {w : World} {K : PySem.W.Frag} {mg : Str → Option Value} {base : Heap}
abbrev sFld : Stmt := topS 29
abbrev sKin : Stmt := topS 30
theorem scFld : FnScope ["error", "name"] ["error", "name"] (defScope sFld) := ⟨rfl, rfl, rfl, by decide +kernel, rfl, by decide +kernel, by decide +kernel⟩
theorem scKin : FnScope ["error", "found"] ["error"] (defScope sKin) := ⟨rfl, rfl, rfl, by decide +kernel, rfl, by decide +kernel, by decide +kernel⟩
def fNames : List Str := ["place", "line", "ring", "most", "name", "index"]
def spFld (K : PySem.W.Frag) : Sp := fun vs H Q _ => ∃ (e C d : Addr) (f : Str) (x : V), vs = [.ref e, .str f] ∧ XC K C ∧ PySem.W.findIn K (.ref C) f = some none ∧ H e = some (exo e C (some d)) ∧ H d = some (exd d [(f, x)]) ∧ f ∈ fNames ∧ ∀ H', Same H H' → Q x H'
def inPair (f a b : Str) : Bool := inV (.str f) [.str a, .str b]
theorem fld_cases : ∀ f ∈ fNames, (inPair f "place" "line" = true → f = "place" ∨ f = "line") ∧ (inPair f "place" "line" = false → inPair f "ring" "most" = true → f = "ring" ∨ f = "most") ∧
    (inPair f "place" "line" = false → inPair f "ring" "most" = false → f = "name" ∨ f = "index") := by decide +kernel
theorem look1 {f : Str} {x : V} : ([(f, x)] : List (Str × V)).lookup f = some x := by simp [List.lookup]
theorem ok_fld {f : Addr} {fd : FuncData} (F : At K mg "_law_field" sFld ["error", "name"] f fd) : FnOk P w K mg base CX0 1 f fd ["error", "name"] (spFld K) := by
  refine F.fn.ok scFld (fun vs H Q E h => ?_) (fun cdv A outer s H vs Q E hr h => ?_)
  · obtain ⟨e, C, d, f, x, rfl, _⟩ := h
    rfl
  · obtain ⟨e, C, d, f, x, rfl, xc, no, at_e, at_d, mem, q⟩ := h
    refine ⟨_, pss_cons (ps_if (pt_cmpR op_in_seq (pv 1) (pe_tup (pa_cons pe_str (pa_cons pe_str pa_nil))) rfl) (pss_one (ps_ret (pe_ifExp (pt_cmpR op_eq (pv 1) pe_str (nomark _)) (pe_xfv (pv 0)) (pe_xfv (pv 0))))) pss_nil)
      (pss_cons (ps_if (pt_cmpR op_in_seq (pv 1) (pe_tup (pa_cons pe_str (pa_cons pe_str pa_nil))) rfl) (pss_one (ps_ret (pe_ifExp (pt_cmpR op_eq (pv 1) pe_str (nomark _)) (pe_xfv (pv 0)) (pe_xfv (pv 0))))) pss_nil)
      (pss_one (ps_ret (pe_ifExp (pt_cmpR op_eq (pv 1) pe_str (nomark _)) (pe_xfv (pv 0)) (pe_xfv (pv 0)))))), ?_⟩
    have fin : ∀ G, Same H G → ∃ (a C d : Addr) (fs : List (Str × V)) (v : V), V.ref e = .ref a ∧ XC K C ∧ PySem.W.findIn K (.ref C) f = some none ∧ G a = some (exo a C (some d)) ∧ G d = some (exd d fs) ∧ fs.lookup f = some v ∧ Q v G := fun G s =>
      ⟨e, C, d, _, x, rfl, xc, no, s _ _ at_e, s _ _ at_d, look1, q G s⟩
    refine ⟨_, rfl, len_line (by show 2 ≤ 100000; decide), fun p np => ?_⟩
    have s1 : Same H (upd H p (.tup [.str "place", .str "line"])) := same_new np
    refine ⟨p, _, rfl, .inr (SqT.of upd_same), rfl, rfl, _, rfl, ?_⟩
    obtain ⟨m1, m2, m3⟩ := fld_cases f mem
    have one_of : ∀ {a b : Str} {R : Prop}, (f = a ∨ f = b) → ¬ decide (V.str f = V.str a) = true → f = b := fun h n => h.elim (fun z => absurd (decide_eq_true (by rw [z])) n) id
    show if inPair f "place" "line" = true then _ else _
    refine ite2 (fun yes => ⟨_, rfl, rfl, _, rfl, ?_⟩) (fun nay => ?_)
    · refine ite2 (fun z => ?_) (fun z => ?_)
      · cases of_decide_eq_true z
        exact ⟨_, rfl, fin _ s1⟩
      · cases one_of (R := True) (m1 yes) z
        exact ⟨_, rfl, fin _ s1⟩
    have nay' : inPair f "place" "line" = false := Bool.not_eq_true _ ▸ nay
    refine ⟨_, rfl, len_line (by show 2 ≤ 100000; decide), fun p2 np2 => ?_⟩
    have s2 := s1.trans (same_new (o := .tup [.str "ring", .str "most"]) np2)
    refine ⟨p2, _, rfl, .inr (SqT.of upd_same), rfl, rfl, _, rfl, ?_⟩
    show if inPair f "ring" "most" = true then _ else _
    refine ite2 (fun yes => ⟨_, rfl, rfl, _, rfl, ?_⟩) (fun nay => ?_)
    · refine ite2 (fun z => ?_) (fun z => ?_)
      · cases of_decide_eq_true z
        exact ⟨_, rfl, fin _ s2⟩
      · cases one_of (R := True) (m2 nay' yes) z
        exact ⟨_, rfl, fin _ s2⟩
    have nay2 : inPair f "ring" "most" = false := Bool.not_eq_true _ ▸ nay
    refine ⟨_, rfl, rfl, _, rfl, ?_⟩
    refine ite2 (fun z => ?_) (fun z => ?_)
    · cases of_decide_eq_true z
      exact ⟨_, rfl, fin _ s2⟩
    · cases one_of (R := True) (m3 nay' nay2) z
      exact ⟨_, rfl, fin _ s2⟩
/-- the answers of isinstance for the class x, the j-th -/
structure KitRow (K : PySem.W.Frag) (C : Cs) (x : Addr) (j : Nat) : Prop where
  a : PySem.W.kitOne K (.ref x) (.ref C.a) = some (decide (j = 0))
  b : PySem.W.kitOne K (.ref x) (.ref C.b) = some (decide (j = 1))
  c : PySem.W.kitOne K (.ref x) (.ref C.c) = some (decide (j = 2))
  d : PySem.W.kitOne K (.ref x) (.ref C.d) = some (decide (j = 3))
  e : PySem.W.kitOne K (.ref x) (.ref C.e) = some (decide (j = 4))
  f : PySem.W.kitOne K (.ref x) (.ref C.f) = some (decide (j = 5))
  g : PySem.W.kitOne K (.ref x) (.ref C.g) = some (decide (j = 6))
  h : PySem.W.kitOne K (.ref x) (.ref C.h) = some (decide (j = 7))
structure Names (mg : Str → Option Value) (C : Cs) : Prop where
  a : mg "Wrong" = some (.ref C.a)
  b : mg "NoText" = some (.ref C.b)
  c : mg "Dead" = some (.ref C.c)
  d : mg "TooMany" = some (.ref C.d)
  e : mg "NoMachine" = some (.ref C.e)
  f : mg "NoBelt" = some (.ref C.f)
  g : mg "NoCommand" = some (.ref C.g)
  h : mg "Nothing" = some (.ref C.h)
def kinV (j : Nat) : List V := [.bl (decide (j = 0)), .bl (decide (j = 1)), .bl (decide (j = 2)), .bl (decide (j = 3)), .bl (decide (j = 4)), .bl (decide (j = 5)), .bl (decide (j = 6)), .bl (decide (j = 7))]
def spKin (K : PySem.W.Frag) (C : Cs) : Sp := fun vs H Q _ => ∃ (e x : Addr) (j : Nat), vs = [.ref e] ∧ XC K x ∧ ErrAt H e x ∧ KitRow K C x j ∧ ∀ H' l, Same H H' → H l = none → H' l = some (.lst (kinV j)) → Q (.ref l) H'
theorem err_up {H G : Hp} {a C : Addr} (s : Same H G) (h : ErrAt H a C) : ErrAt G a C := by
  rcases h with h | ⟨d, fs, h, hd⟩
  · exact .inl (s _ _ h)
  · exact .inr ⟨d, fs, s _ _ h, s _ _ hd⟩
theorem ok_kin {C : Cs} {f : Addr} {fd : FuncData} (F : At K mg "_law_kinds" sKin ["error"] f fd) (N : Names mg C) (mi : mg "isinstance" = none) : FnOk P w K mg base CX0 1 f fd ["error"] (spKin K C) := by
  refine F.fn.ok scKin (fun vs H Q E h => ?_) (fun cdv A outer s H vs Q E hr h => ?_)
  · obtain ⟨e, x, j, rfl, _⟩ := h
    rfl
  · obtain ⟨e, x, j, rfl, xc, err, kit, q⟩ := h
    have nd := scKin.nd
    have bi : bootBuiltins "isinstance" = some (.builtin "isinstance") := PyProof.Rows.boot_isinstance
    refine ⟨_, pss_cons (ps_set (i := 1) nd rfl (Or.inl rfl) (pe_lst
        (pa_cons (pe_callB call_isX (by rfl) mi bi (pa_cons (pv 0) (pa_cons (pe_glob (by rfl) N.a (v := .ref C.a) rfl) pa_nil)))
        (pa_cons (pe_callB call_isX (by rfl) mi bi (pa_cons (pv 0) (pa_cons (pe_glob (by rfl) N.b (v := .ref C.b) rfl) pa_nil)))
        (pa_cons (pe_callB call_isX (by rfl) mi bi (pa_cons (pv 0) (pa_cons (pe_glob (by rfl) N.c (v := .ref C.c) rfl) pa_nil)))
        (pa_cons (pe_callB call_isX (by rfl) mi bi (pa_cons (pv 0) (pa_cons (pe_glob (by rfl) N.d (v := .ref C.d) rfl) pa_nil))) pa_nil))))))
      (pss_cons (ps_expr (pe_bm PySem.F.plainAttrs_list PySem.F.slot_list_extend PySem.F.type_list_extend mt_extend (pv 1) (pa_cons (pe_lst
        (pa_cons (pe_callB call_isX (by rfl) mi bi (pa_cons (pv 0) (pa_cons (pe_glob (by rfl) N.e (v := .ref C.e) rfl) pa_nil)))
        (pa_cons (pe_callB call_isX (by rfl) mi bi (pa_cons (pv 0) (pa_cons (pe_glob (by rfl) N.f (v := .ref C.f) rfl) pa_nil)))
        (pa_cons (pe_callB call_isX (by rfl) mi bi (pa_cons (pv 0) (pa_cons (pe_glob (by rfl) N.g (v := .ref C.g) rfl) pa_nil))) pa_nil)))) pa_nil)))
      (pss_one (ps_ret (pe_op op_cat (pv 1) (pe_lst (pa_cons (pe_callB call_isX (by rfl) mi bi (pa_cons (pv 0) (pa_cons (pe_glob (by rfl) N.h (v := .ref C.h) rfl) pa_nil))) pa_nil)))))), ?_⟩
    refine ⟨_, rfl, e, x, _, .ref C.a, _, rfl, xc, err, fun u r => r, kit.a, ?_⟩
    refine ⟨_, rfl, e, x, _, .ref C.b, _, rfl, xc, err, fun u r => r, kit.b, ?_⟩
    refine ⟨_, rfl, e, x, _, .ref C.c, _, rfl, xc, err, fun u r => r, kit.c, ?_⟩
    refine ⟨_, rfl, e, x, _, .ref C.d, _, rfl, xc, err, fun u r => r, kit.d, ?_⟩
    refine ⟨len_line (by show 4 ≤ 100000; decide), fun p np => ?_⟩
    have s1 := same_new (o := .lst [.bl (decide (j = 0)), .bl (decide (j = 1)), .bl (decide (j = 2)), .bl (decide (j = 3))]) np
    refine ⟨_, rfl, .inl ⟨rfl, _, SqL.of upd_same⟩, ?_⟩
    refine ⟨_, rfl, e, x, _, .ref C.e, _, rfl, xc, err_up s1 err, fun u r => r, kit.e, ?_⟩
    refine ⟨_, rfl, e, x, _, .ref C.f, _, rfl, xc, err_up s1 err, fun u r => r, kit.f, ?_⟩
    refine ⟨_, rfl, e, x, _, .ref C.g, _, rfl, xc, err_up s1 err, fun u r => r, kit.g, ?_⟩
    refine ⟨len_line (by show 3 ≤ 100000; decide), fun p2 np2 => ?_⟩
    have pp : p ≠ p2 := ne_of_none upd_same np2
    refine ⟨p, p2, _, _, rfl, rfl, by rw [upd_ne pp, upd_same], upd_same, len_line (by show 7 ≤ 100000; decide), ?_⟩
    have n2 : H p2 = none := s1.free np2
    have s3 : ∀ o, Same H (upd (upd (upd H p (.lst [.bl (decide (j = 0)), .bl (decide (j = 1)), .bl (decide (j = 2)), .bl (decide (j = 3))])) p2 (.lst [.bl (decide (j = 4)), .bl (decide (j = 5)), .bl (decide (j = 6))])) p o) := fun o b u z => by
      rw [upd_ne (ne_of_none z np), upd_ne (ne_of_none z n2), upd_ne (ne_of_none z np)]
      exact z
    refine ⟨_, rfl, ?_⟩
    refine ⟨_, rfl, e, x, _, .ref C.h, _, rfl, xc, err_up (s3 _) err, fun u r => r, kit.h, ?_⟩
    refine ⟨len_line (by show 1 ≤ 100000; decide), fun p3 np3 => ?_⟩
    have p3p : p ≠ p3 := ne_of_none upd_same np3
    refine ⟨p, p3, _, _, rfl, rfl, by rw [upd_ne p3p, upd_same], upd_same, len_line (by show 8 ≤ 100000; decide), fun p4 np4 => ?_⟩
    have s5 := ((s3 _).trans (same_new (o := .lst [.bl (decide (j = 7))]) np3)).trans (same_new (o := .lst (kinV j)) np4)
    exact q _ p4 s5 (((s3 _).trans (same_new (o := .lst [.bl (decide (j = 7))]) np3)).free np4) upd_same
end
end K28

namespace K28
open PySem PySem.Spec PyProof.Rows L2 Vd Evl
/-! ### things that errors keep; M: the lists that may be changed -/
def Aside (m : Addr) (H H' : Hp) : Prop := ∀ p o, p ≠ m → H p = some o → H' p = some o
def TH (K : PySem.W.Frag) (M : Addr → Prop) (G : Hp) (v : V) (d : PyData) : Prop := ∃ F : Hp, (∀ p o, F p = some o → G p = some o ∧ ¬ M p) ∧
  ((∃ (m : Addr) (xs : List V) (ds : List PyData), v = .ref m ∧ M m ∧ G m = some (.lst xs) ∧ d = .list ds ∧ DatAll K F xs ds) ∨ (isListD d = false ∧ Dat K F v d))
theorem TH.dat {K : PySem.W.Frag} {M : Addr → Prop} {G : Hp} {v : V} {d : PyData} (h : TH K M G v d) : Dat K G v d := by
  obtain ⟨F, sub, ⟨m, xs, ds, rfl, _, at_m, rfl, all⟩ | ⟨_, dat⟩⟩ := h
  · exact .lst (SqL.of at_m) (DatAll.up (fun p o e => (sub p o e).1) all)
  · exact Dat.up (fun p o e => (sub p o e).1) dat
theorem TH.up {K : PySem.W.Frag} {M : Addr → Prop} {G G' : Hp} {v : V} {d : PyData} (s : Same G G') (h : TH K M G v d) : TH K M G' v d := by
  obtain ⟨F, sub, ⟨m, xs, ds, e1, e2, at_m, e3, all⟩ | ⟨e1, dat⟩⟩ := h
  · exact ⟨F, fun p o e => ⟨s _ _ (sub p o e).1, (sub p o e).2⟩, .inl ⟨m, xs, ds, e1, e2, s _ _ at_m, e3, all⟩⟩
  · exact ⟨F, fun p o e => ⟨s _ _ (sub p o e).1, (sub p o e).2⟩, .inr ⟨e1, dat⟩⟩
theorem TH.but {K : PySem.W.Frag} {M : Addr → Prop} {G G' : Hp} {v : V} {d : PyData} {m : Addr} (isM : M m) (s : Aside m G G') (ne : v ≠ .ref m) (h : TH K M G v d) : TH K M G' v d := by
  obtain ⟨F, sub, q⟩ := h
  have sub' : ∀ p o, F p = some o → G' p = some o ∧ ¬ M p := fun p o e => ⟨s p o (fun z => (sub p o e).2 (z ▸ isM)) (sub p o e).1, (sub p o e).2⟩
  rcases q with ⟨n, xs, ds, e1, e2, at_m, e3, all⟩ | ⟨e1, dat⟩
  · exact ⟨F, sub', .inl ⟨n, xs, ds, e1, e2, s n _ (fun z => ne (by rw [e1, z])) at_m, e3, all⟩⟩
  · exact ⟨F, sub', .inr ⟨e1, dat⟩⟩
theorem wgts_snoc : ∀ (ds : List PyData) (d : PyData), wgts (ds ++ [d]) = wgts ds + (wgt d + 2)
  | [], d => by simp [wgts]
  | x :: ds, d => by
    rw [List.cons_append]
    simp only [wgts]
    rw [wgts_snoc ds d]
    omega
theorem nices_snoc : ∀ (ds : List PyData) (d : PyData), nices ds = true → nice d = true → nices (ds ++ [d]) = true
  | [], d, _, h => by simp [nices, h]
  | x :: ds, d, h, h' => by
    have a : nice x = true ∧ nices ds = true := by simpa [nices] using h
    rw [List.cons_append]
    simp only [nices, Bool.and_eq_true]
    exact ⟨a.1, nices_snoc ds d a.2 h'⟩
theorem depth_snoc : ∀ (ds : List PyData) (d : PyData), PyData.depthAll (ds ++ [d]) ≤ max (PyData.depthAll ds) d.depth
  | [], d => by simp [PyData.depthAll]
  | x :: ds, d => by
    rw [List.cons_append]
    simp only [PyData.depthAll]
    have := depth_snoc ds d
    omega
/-- how things may grow -/
def Fits (n : Nat) (d : PyData) : Prop := nice d = true ∧ wgt d ≤ n ∧ d.depth ≤ 40
theorem Fits.shows {n : Nat} {d : PyData} (h : Fits n d) (low : n ≤ 1000000) : Shows d := Shows.of h.1 (by have := h.2.1; omega)
/-- behind a look at a thing v: all as it was, or a list with a 0 more -/
def Post (K : PySem.W.Frag) (M : Addr → Prop) (v : V) (n : Nat) (H H' : Hp) : Prop := Same H H' ∨ ∃ m d', M m ∧ v = .ref m ∧ Aside m H H' ∧ (∃ xs, H m = some (.lst xs)) ∧ (∃ xs, H' m = some (.lst xs)) ∧ TH K M H' v d' ∧ Fits (n + 2000) d'
theorem TH.push {K : PySem.W.Frag} {M : Addr → Prop} {G : Hp} {m : Addr} {xs : List V} {ds : List PyData} {F : Hp} (isM : M m) (sub : ∀ p o, F p = some o → G p = some o ∧ ¬ M p) (all : DatAll K F xs ds) :
    TH K M (upd G m (.lst (xs ++ [.int 0]))) (.ref m) (.list (ds ++ [.int 0])) :=
  ⟨F, fun p o e => ⟨by rw [upd_ne (fun z : p = m => (sub p o e).2 (by rw [z]; exact isM))]; exact (sub p o e).1, (sub p o e).2⟩, .inl ⟨m, _, _, rfl, isM, upd_same, rfl, DatAll.snoc (.int 0) all⟩⟩
theorem Fits.push {n : Nat} {ds : List PyData} (h : Fits n (.list ds)) : Fits (n + 2000) (.list (ds ++ [.int 0])) := by
  obtain ⟨a, b, c⟩ := h
  refine ⟨?_, ?_, ?_⟩
  · have a' : nices ds = true := by simpa [nice] using a
    simpa [nice] using nices_snoc ds (.int 0) a' (by decide)
  · have b' : wgts ds + 2 ≤ n := by simpa [wgt] using b
    show wgts (ds ++ [.int 0]) + 2 ≤ n + 2000
    rw [wgts_snoc]
    show wgts ds + (1921 + 2) + 2 ≤ n + 2000
    omega
  · have c' : PyData.depthAll ds + 1 ≤ 40 := c
    show PyData.depthAll (ds ++ [.int 0]) + 1 ≤ 40
    have := depth_snoc ds (.int 0)
    have e : (PyData.int 0).depth = 0 := by simp [PyData.depth]
    rw [e] at this
    omega
/-- what isinstance(x, list) asks -/
structure KL (K : PySem.W.Frag) : Prop where
  non : PySem.W.kitOne K (.type "NoneType") (.type "list") = some false
  bl : PySem.W.kitOne K (.type "bool") (.type "list") = some false
  int : PySem.W.kitOne K (.type "int") (.type "list") = some false
  str : PySem.W.kitOne K (.type "str") (.type "list") = some false
  tup : PySem.W.kitOne K (.type "tuple") (.type "list") = some false
  dic : PySem.W.kitOne K (.type "dict") (.type "list") = some false
theorem tyx_list {K : PySem.W.Frag} {H : Hp} {a : Addr} {xs : List V} (h : SqL K H a xs) : TyX K H (.ref a) (.type "list") := by
  rcases h with (h | ⟨o, h⟩) | h
  · exact .base (.lst h)
  · exact .base (.frz h)
  · obtain ⟨o, _, _, h1, h2, _⟩ := h
    exact .kList h1 h2
theorem tyx_tup {K : PySem.W.Frag} {H : Hp} {a : Addr} {xs : List V} (h : SqT K H a xs) : TyX K H (.ref a) (.type "tuple") := by
  rcases h with (h | ⟨o, h⟩) | h
  · exact .base (.tup h)
  · exact .fTuple h
  · obtain ⟨o, _, _, h1, h2, _⟩ := h
    exact .kTuple h1 h2
theorem tyx_of {K : PySem.W.Frag} {H : Hp} {v : V} {d : PyData} (L : KL K) (h : Dat K H v d) : ∃ t, TyX K H v t ∧ PySem.W.kitOne K t (.type "list") = some (isListD d) := by
  cases h with
  | non => exact ⟨_, .base .non, L.non⟩
  | bl b => exact ⟨_, .base (.bl b), L.bl⟩
  | int i => exact ⟨_, .base (.int i), L.int⟩
  | str x => exact ⟨_, .base (.str x), L.str⟩
  | lst a b => exact ⟨_, tyx_list a, by rfl⟩
  | tup a b => exact ⟨_, tyx_tup a, L.tup⟩
  | dic a b => exact ⟨_, .base (.dK a), L.dic⟩
/-! ### whether an error is what it is told to be -/
abbrev sRight : Stmt := topS 31
theorem scRight : FnScope ["lot", "at", "error", "name", "thing", "place"] ["lot", "at"] (defScope sRight) := ⟨rfl, rfl, rfl, by decide +kernel, rfl, by decide +kernel, by decide +kernel⟩
structure Knows (K : PySem.W.Frag) (C : Cs) (cH x : Addr) (j : Nat) : Prop where
  xc : XC K x
  kit : KitRow K C x j
  kH : PySem.W.kitOne K (.ref x) (.ref cH) = some true
  kV : PySem.W.kitOne K (.ref x) (.type "ValueError") = some true
def spRight (K : PySem.W.Frag) (C : Cs) (cH : Addr) : Sp := fun vs H Q _ => ∃ (l : Addr) (j : Nat) (ts : List V) (r : V) (x : Addr), vs = [.ref l, .int j] ∧ H l = some (.lst ts) ∧ ts[j]? = some r ∧ j < 8 ∧ Knows K C cH x j ∧
  ((∃ (M : Addr → Prop) (fld : Str) (v : V) (d : PyData) (n : Nat), fld ∈ fNames ∧ PySem.W.findIn K (.ref x) fld = some none ∧ Row H x fld v r ∧ TH K M H v d ∧ Fits n d ∧ n ≤ 900000 ∧ ∀ H', Post K M v n H H' → Q (.bl true) H') ∨
    (Bare H x r ∧ ∀ H', Same H H' → Q (.bl true) H'))
def kinD (j : Nat) : List PyData := [.bool (decide (j = 0)), .bool (decide (j = 1)), .bool (decide (j = 2)), .bool (decide (j = 3)), .bool (decide (j = 4)), .bool (decide (j = 5)), .bool (decide (j = 6)), .bool (decide (j = 7))]
theorem kin_dp {K : PySem.W.Frag} {H : Hp} {l : Addr} {j : Nat} (h : H l = some (.lst (kinV j))) : Dp K H (.ref l) (.list (kinD j)) :=
  .lst (SqL.of h) (.cons (.bl _) (.cons (.bl _) (.cons (.bl _) (.cons (.bl _) (.cons (.bl _) (.cons (.bl _) (.cons (.bl _) (.cons (.bl _) .nil))))))))
theorem kin_eqv : ∀ j, j < 8 → PyData.eqv (.list (kinD j)) (.list (kinD j)) = true ∧ SeqAt.shaped (.list (kinD j)) = true := by decide +kernel
theorem kin_comp : ∀ j, j < 8 → (List.range 8).map (fun i => V.bl (decide (V.int (i : Nat) = V.int (j : Nat)))) = kinV j := by decide +kernel
theorem DatAll.len {K : PySem.W.Frag} {G : Hp} : ∀ {vs : List V} {ds : List PyData}, DatAll K G vs ds → vs.length = ds.length
  | _, _, .nil => rfl
  | _, _, .cons _ b => by rw [List.length_cons, List.length_cons, DatAll.len b]
theorem len_wgts : ∀ ds : List PyData, ds.length ≤ wgts ds
  | [] => Nat.zero_le _
  | d :: ds => by
    have := len_wgts ds
    simp only [List.length_cons, wgts]
    omega
theorem not_iteF {A B : Prop} (h : B) : if (!true) = true then A else B := iteF h
section
variable {P : Program} {w : World} {K : PySem.W.Frag} {mg : Str → Option Value} {base : Heap}
theorem ok_right {C : Cs} {cH f fK fF fA : Addr} {fd fdK fdF fdA : FuncData} (F : At K mg "_law_is_error_right" sRight ["lot", "at"] f fd) (Ki : At K mg "_law_kinds" sKin ["error"] fK fdK) (Fi : At K mg "_law_field" sFld ["error", "name"] fF fdF)
    (Al : At K mg "_law_alike" sAlike ["found", "due"] fA fdA) (N : Names mg C) (nH : mg "HallError" = some (.ref cH)) (mi : mg "isinstance" = none) (mr : mg "repr" = none) (mv : mg "ValueError" = none) (mg_ : mg "range" = none) (ml : mg "list" = none) (L : KL K) :
    FnG P w K mg base 2 f fd ["lot", "at"] (spRight K C cH) := by
  have GK : FnOk P w K mg base CX0 1 fK fdK ["error"] (spKin K C) := ok_kin Ki N mi
  have GF : FnOk P w K mg base CX0 1 fF fdF ["error", "name"] (spFld K) := ok_fld Fi
  have GA : FnG P w K mg base 1 fA fdA ["found", "due"] (spAlike K) := ok_alike Al mr
  have bi : bootBuiltins "isinstance" = some (.builtin "isinstance") := PyProof.Rows.boot_isinstance
  have bv : bootBuiltins "ValueError" = some (.type "ValueError") := by decide +kernel
  have bl : bootBuiltins "list" = some (.type "list") := by decide +kernel
  refine okG F.fn scRight (fun vs H Q E h => ?_) (fun cdv A outer s H vs Q E hr gd h => ?_)
  · obtain ⟨l, j, ts, r, x, rfl, _⟩ := h
    rfl
  · obtain ⟨l, j, ts, r, x, rfl, at_l, at_j, j8, kn, way⟩ := h
    have nd := scRight.nd
    refine ⟨_, pss_cons (ps_asg (pe_ix ix_list (pv 0) (pv 1) (fun _ _ => rfl)) (pg_tup rfl (pgs_cons (pg_name (i := 2) nd rfl (Or.inl rfl)) (pgs_cons (pg_name (i := 3) nd rfl (Or.inl rfl)) (pgs_cons (pg_name (i := 4) nd rfl (Or.inl rfl)) pgs_nil)))))
      (pss_cons (ps_if (PW.pt (pw_or (pt_not (pt_val (pe_callB call_isX (by rfl) mi bi (pa_cons (pv 2) (pa_cons (pe_glob (by rfl) nH (v := .ref cH) rfl) pa_nil)))))
          (pw_or1 (pt_not (pt_val (pe_callB call_isX (by rfl) mi bi (pa_cons (pv 2) (pa_cons (pe_bltn (by rfl) mv bv (v := .ty "ValueError") rfl) pa_nil)))))))) (pss_one (ps_ret pe_bl)) pss_nil)
      (pss_cons (ps_if (pt_cmpR (op_neD hr.units) (pe_call GK hr (by rfl) Ki.g Ki.fn.kp Ki.b .nil pass0 (pa_cons (pv 2) pa_nil))
          (pe_lc (own := [("place", 5)]) (g := gName 5) (tt := tYes) rfl nd (pi_range1 (by rfl) mg_ (pa_cons pe_int pa_nil)) (blkOk_by (N := ["lot", "at", "error", "name", "thing", "place"]) (sc := defScope sRight) (by decide +kernel))
            (fun _ _ _ _ _ => pg_name (i := 5) nd rfl (Or.inl rfl)) (fun _ _ _ _ _ => pts_nil) (fun _ _ _ _ _ => pe_cmpR op_eq (pv 5) (pv 1) (nomark _))) (by rfl)) (pss_one (ps_ret pe_bl)) pss_nil)
      (pss_cons (ps_if (pt_cmpR op_isN (pv 3) pe_non (nomark _)) (pss_one (ps_ret pe_bl)) pss_nil)
      (pss_cons (ps_if (pt_not (pt_val (callG GA hr gd (by rfl) Al.g Al.fn.kp Al.b (pa_cons (pe_call GF hr (by rfl) Fi.g Fi.fn.kp Fi.b .nil pass0 (pa_cons (pv 2) (pa_cons (pv 3) pa_nil))) (pa_cons (pv 4) pa_nil))))) (pss_one (ps_ret pe_bl)) pss_nil)
      (pss_cons (ps_if (pt_val (pe_callB call_isi (by rfl) mi bi (pa_cons (pv 4) (pa_cons (pe_bltn (by rfl) ml bl (v := .ty "list") rfl) pa_nil))))
          (pss_one (ps_expr (pe_bm PySem.F.plainAttrs_list PySem.F.slot_list_append PySem.F.type_list_append mt_append (pv 4) (pa_cons pe_int pa_nil)))) pss_nil)
      (pss_one (ps_ret (callG GA hr gd (by rfl) Al.g Al.fn.kp Al.b (pa_cons (pe_call GF hr (by rfl) Fi.g Fi.fn.kp Fi.b .nil pass0 (pa_cons (pv 2) (pa_cons (pv 3) pa_nil))) (pa_cons (pv 4) pa_nil)))))))))), ?_⟩
    have front : ∃ (t e : Addr) (nm th : V), r = .ref t ∧ H t = some (.tup [.ref e, nm, th]) ∧ ErrAt H e x ∧
        ((∃ (M : Addr → Prop) (fld : Str) (d : PyData) (n : Nat) (dd : Addr), nm = .str fld ∧ fld ∈ fNames ∧ PySem.W.findIn K (.ref x) fld = some none ∧ H e = some (exo e x (some dd)) ∧ H dd = some (exd dd [(fld, th)]) ∧ TH K M H th d ∧ Fits n d ∧ n ≤ 900000 ∧
          ∀ H', Post K M th n H H' → Q (.bl true) H') ∨ (nm = .non ∧ ∀ H', Same H H' → Q (.bl true) H')) := by
      rcases way with ⟨M, fld, v, d, n, m1, m2, ⟨t, e, dd, r1, r2, r3, r4⟩, th, fit, low, q⟩ | ⟨⟨t, e, r1, r2, r3⟩, q⟩
      · exact ⟨t, e, _, _, r1, r2, .inr ⟨dd, _, r3, r4⟩, .inl ⟨M, fld, d, n, dd, rfl, m1, m2, r3, r4, th, fit, low, q⟩⟩
      · exact ⟨t, e, _, _, r1, r2, .inl r3, .inr ⟨rfl, q⟩⟩
    clear way
    obtain ⟨t, e, nm, th, rfl, at_t, err, way⟩ := front
    refine ⟨_, rfl, _, rfl, l, ts, _, _, rfl, rfl, SqL.of at_l, atI_nat at_j, ?_⟩
    refine ⟨t, _, rfl, SqT.of at_t, rfl, _, _, rfl, _, _, rfl, _, _, rfl, rfl, ?_⟩
    refine ⟨_, rfl, e, x, .ref cH, .ref cH, true, rfl, kn.xc, err, fun u r => r, kn.kH, true, rfl, not_iteF ?_⟩
    refine ⟨_, rfl, e, x, .ty "ValueError", _, true, rfl, kn.xc, err, fun u r => r, kn.kV, true, rfl, not_iteF ?_⟩
    refine ⟨_, rfl, e, x, j, rfl, kn.xc, err, kn.kit, fun H1 p s1 np at_p => ?_⟩
    refine ⟨8, rfl, by decide, by decide, fun D nD => ?_⟩
    refine lc_range (lo := 0) (n := 8) (fun i G => G D = some (.lst ((List.range i).map fun k => V.bl (decide (V.int (k : Nat) = V.int (j : Nat))))) ∧ Same H1 G) ⟨upd_same, same_new nD⟩ ?_ ?_
    · rintro i G i8 ⟨at_D, s2⟩
      have ei : (0 : Int) + (i : Nat) = (i : Nat) := Int.zero_add _
      rw [ei]
      refine ⟨rfl, _, rfl, _, rfl, rfl, _, at_D, ?_, ?_, ?_⟩
      · rw [List.length_map, List.length_range]
        exact small1000 (by omega)
      · rw [upd_same, List.range_succ, List.map_append]
        rfl
      · intro b o z
        rw [upd_ne (ne_of_none z nD)]
        exact s2 _ _ z
    · rintro G ⟨at_D, s2⟩
      have at_D' : G D = some (.lst (kinV j)) := by rw [at_D, kin_comp j j8]
      obtain ⟨e1, e2⟩ := kin_eqv j j8
      refine ⟨_, _, kin_dp (s2 _ _ at_p), kin_dp at_D', e2, e2, _, rfl, ?_⟩
      rw [e1]
      refine not_iteF ?_
      have sG : Same H G := s1.trans s2
      refine ⟨_, rfl, rfl, _, rfl, ?_⟩
      rcases way with ⟨M, fld, d, n, dd, rfl, mem, nof, at_e, at_d, thing, fit, low, q⟩ | ⟨rfl, q⟩
      · refine ite2 (fun z => by cases of_decide_eq_true z) (fun _ => ?_)
        refine ⟨_, rfl, _, rfl, e, x, dd, fld, th, rfl, kn.xc, nof, sG _ _ at_e, sG _ _ at_d, mem, fun G3 s3 => ?_⟩
        have sG3 := sG.trans s3
        refine ⟨_, rfl, th, th, d, rfl, (thing.up sG3).dat, (thing.up sG3).dat, fit.shows (by omega), by have := fit.2.2; omega, true, rfl, not_iteF ?_⟩
        obtain ⟨ty, tyx, kit⟩ := tyx_of L (thing.up sG3).dat
        refine ⟨_, rfl, th, .ty "list", ty, .type "list", _, rfl, .ty "list", tyx, kit, _, rfl, ?_⟩
        obtain ⟨F, sub, ⟨m, xs, ds, rfl, isM, at_m, rfl, all⟩ | ⟨no, dat⟩⟩ := thing
        · refine iteT ?_
          have at_m3 := sG3 _ _ at_m
          have few : xs.length ≤ 900000 := by
            have e1 := DatAll.len all
            have e2 := len_wgts ds
            have e3 : wgts ds + 2 ≤ n := fit.2.1
            omega
          refine ⟨_, rfl, .inl ⟨rfl, _, SqL.of at_m3⟩, m, xs, .int 0, rfl, rfl, at_m3, Nat.lt_of_le_of_lt few (by rw [sizeLine_eq]; decide), ?_⟩
          have sub3 : ∀ p o, F p = some o → G3 p = some o ∧ ¬ M p := fun p o z => ⟨sG3 _ _ (sub p o z).1, (sub p o z).2⟩
          have th4 : TH K M (upd G3 m (.lst (xs ++ [.int 0]))) (.ref m) (.list (ds ++ [.int 0])) := TH.push isM sub3 all
          have at_e4 : upd G3 m (.lst (xs ++ [.int 0])) e = some (exo e x (some dd)) := by
            rw [upd_ne (ne_of (sG3 _ _ at_e) at_m3 exo_lst)]
            exact sG3 _ _ at_e
          have at_d4 : upd G3 m (.lst (xs ++ [.int 0])) dd = some (exd dd [(fld, .ref m)]) := by
            rw [upd_ne (ne_of (sG3 _ _ at_d) at_m3 exd_lst)]
            exact sG3 _ _ at_d
          refine ⟨_, rfl, _, rfl, e, x, dd, fld, .ref m, rfl, kn.xc, nof, at_e4, at_d4, mem, fun G5 s5 => ?_⟩
          refine ⟨_, rfl, .ref m, .ref m, _, rfl, (th4.up s5).dat, (th4.up s5).dat, fit.push.shows (by omega), by have := fit.push.2.2; omega, ?_⟩
          refine q _ (.inr ⟨m, _, isM, rfl, fun p o ne z => ?_, ⟨xs, at_m⟩, ⟨_, s5 _ _ upd_same⟩, th4.up s5, fit.push⟩)
          exact s5 _ _ (by rw [upd_ne ne]; exact sG3 _ _ z)
        · rw [no]
          refine iteF ?_
          refine ⟨_, rfl, _, rfl, e, x, dd, fld, th, rfl, kn.xc, nof, sG3 _ _ at_e, sG3 _ _ at_d, mem, fun G5 s5 => ?_⟩
          have dat5 : Dat K G5 th d := Dat.up (fun p o z => s5 _ _ (sG3 _ _ (sub p o z).1)) dat
          exact ⟨_, rfl, th, th, d, rfl, dat5, dat5, fit.shows (by omega), by have := fit.2.2; omega, q _ (.inl (sG3.trans s5))⟩
      · exact iteT (q _ sG)
end
end K28

namespace K28
open PySem PySem.Spec PyProof.Rows L2 Vd Evl
theorem red_of {i j : Int} (h : 0 < j) : red i j = (i / gz i j, j / gz i j) := if_pos h
theorem gz_self_div {i j : Int} (h : 1 ≤ j) : gz (i / gz i j) (j / gz i j) = 1 := by
  have pos : 0 < Nat.gcd i.natAbs j.natAbs := Nat.gcd_pos_of_pos_right _ (by omega)
  have e1 : (i / gz i j).natAbs = i.natAbs / Nat.gcd i.natAbs j.natAbs := by
    rw [Int.natAbs_ediv_of_dvd (gz_dvd1 i j)]
    rfl
  have e2 : (j / gz i j).natAbs = j.natAbs / Nat.gcd i.natAbs j.natAbs := by
    rw [Int.natAbs_ediv_of_dvd (gz_dvd2 i j)]
    rfl
  show ((Nat.gcd (i / gz i j).natAbs (j / gz i j).natAbs : Nat) : Int) = 1
  rw [e1, e2, Nat.coprime_div_gcd_div_gcd pos]
  rfl
theorem red_facts {i j : Int} (h : 1 ≤ j) : (red i j).1.natAbs ≤ i.natAbs ∧ 0 < (red i j).2 ∧ (red i j).2 ≤ j ∧ gz (red i j).1 (red i j).2 = 1 := by
  have g0 : 0 < gz i j := gz_pos (n := i) (d := j) (by omega)
  rw [red_of (i := i) (by omega : 0 < j)]
  refine ⟨?_, ?_, ?_, gz_self_div h⟩
  · rw [Int.natAbs_ediv_of_dvd (gz_dvd1 i j)]
    exact Nat.div_le_self _ _
  · exact Int.ediv_pos_of_pos_of_dvd (by omega) (by omega) (gz_dvd2 i j)
  · exact Int.ediv_le_self _ (by omega)
theorem gz_mul (A B f : Int) (h : gz A B = 1) : gz (A * f) (B * f) = (f.natAbs : Int) := by
  show ((Nat.gcd (A * f).natAbs (B * f).natAbs : Nat) : Int) = _
  rw [Int.natAbs_mul, Int.natAbs_mul, Nat.gcd_mul_right]
  have h' : ((Nat.gcd A.natAbs B.natAbs : Nat) : Int) = 1 := h
  have h2 : Nat.gcd A.natAbs B.natAbs = 1 := by omega
  rw [h2, Nat.one_mul]
theorem red_scale {A B f : Int} (h : gz A B = 1) (b : 0 < B) (hf : f = 1 ∨ f = -1 ∨ f = 6 ∨ f = -35) : red (A * f) (B * f) = (A, B) := by
  unfold red
  rw [gz_mul A B f h]
  rcases hf with rfl | rfl | rfl | rfl
  · rw [if_pos (by omega)]
    exact Prod.ext (by show A * 1 / 1 = A; omega) (by show B * 1 / 1 = B; omega)
  · rw [if_neg (by omega)]
    exact Prod.ext (by show -(A * -1) / 1 = A; omega) (by show -(B * -1) / 1 = B; omega)
  · rw [if_pos (by omega)]
    exact Prod.ext (by show A * 6 / 6 = A; omega) (by show B * 6 / 6 = B; omega)
  · rw [if_neg (by omega)]
    exact Prod.ext (by show -(A * -35) / 35 = A; omega) (by show -(B * -35) / 35 = B; omega)
theorem near_sq (g : Int) : (g + 1) * (g - 1) = g * g - 1 := by
  rw [Int.add_mul, Int.mul_sub, Int.one_mul, Int.mul_one]
  generalize g * g = q
  omega
theorem sgn_near (g : Int) : sgn ((g + 1) * (g - 1)) (g * g) = -1 := by
  unfold sgn
  rw [near_sq, if_pos (by generalize g * g = q; omega)]
theorem sgn_far (g : Int) : sgn (g * g) ((g + 1) * (g - 1)) = 1 := by
  unfold sgn
  rw [near_sq, if_neg (by generalize g * g = q; omega), if_pos (by generalize g * g = q; omega)]
theorem sgn_same (x : Int) : sgn x x = 0 := by
  unfold sgn
  rw [if_neg (by omega), if_neg (by omega)]
/-- int(x > y) - int(x < y) -/
theorem sgn_order (x y : Int) : (if decide (y < x) = true then (1 : Int) else 0) - (if decide (x < y) = true then (1 : Int) else 0) = sgn x y := by
  unfold sgn
  by_cases h : x < y
  · rw [if_pos h, if_neg (by simp; omega), if_pos (by simpa using h)]
    rfl
  · rw [if_neg h]
    by_cases h2 : y < x
    · rw [if_pos h2, if_pos (by simpa using h2), if_neg (by simp; omega)]
      rfl
    · rw [if_neg h2, if_neg (by simp; omega), if_neg (by simp; omega)]
      rfl
theorem low100 {i : Int} {n : Nat} (h : i.natAbs ≤ n) (k : n < 2 ^ 100) : i.natAbs < 2 ^ 100 := Nat.lt_of_le_of_lt h k
theorem signs_of (x : String) : signsOk (Str.ofString x) = true := by
  unfold signsOk
  rw [Str.ofString_eq_toList]
  refine List.all_eq_true.mpr fun c m => ?_
  obtain ⟨z, _, rfl⟩ := List.mem_map.mp (by simpa using m)
  have := z.val.toNat_lt
  exact decide_eq_true (by show z.val.toNat < 16 ^ 8; omega)
theorem signs_app {x y : Str} (h : signsOk x = true) (k : signsOk y = true) : signsOk (x ++ y) = true := by
  unfold signsOk at *
  have e : (x ++ y).cps.toList = x.cps.toList ++ y.cps.toList := by
    show (x.cps ++ y.cps).toList = _
    simp
  rw [e, List.all_append, h, k]
  rfl
theorem text_nice (n d : Int) : nice (.str (ftext n d)) = true := by
  show signsOk (ftext n d) = true
  unfold ftext
  split
  · exact signs_of _
  · exact signs_app (signs_app (signs_of _) (signs_of _)) (signs_of _)
theorem text_low {n d : Int} (hn : n.natAbs < 2 ^ 100) (hd : d.natAbs < 2 ^ 100) : (ftext n d).length ≤ 4000 := by
  have a := str_low hn
  have b := str_low hd
  have c : (Str.ofString "/").length = 1 := by decide +kernel
  unfold ftext
  split
  · omega
  · rw [strLen_append, strLen_append]
    omega
theorem text_one {n d : Int} (h : d = 1) : Str.ofString (toString n) ++ Str.ofString "" = ftext n d := by
  unfold ftext
  rw [if_pos h]
  exact Str.append_empty _
theorem text_two {n d : Int} (h : d ≠ 1) : Str.ofString (toString n) ++ (Str.ofString "/" ++ Str.ofString (toString d)) = ftext n d := by
  unfold ftext
  rw [if_neg h, Str.append_assoc]
theorem red_low {n d : Int} (h : 0 < d) (hn : n.natAbs < 2 ^ 400) (hd : d.natAbs < 2 ^ 400) : (red n d).1.natAbs < 2 ^ 400 ∧ (red n d).2.natAbs < 2 ^ 400 := by
  obtain ⟨a, b, c, _⟩ := red_facts (i := n) (j := d) (by omega)
  exact ⟨by omega, by omega⟩
def tupD (x : Int × Int) : PyData := .tuple [.int x.1, .int x.2]
def low4 (x : Int × Int) : Prop := x.1.natAbs < 2 ^ 400 ∧ x.2.natAbs < 2 ^ 400
theorem tupD_nice {x : Int × Int} (h : low4 x) : nice (tupD x) = true := by
  have f : ∀ i : Int, i.natAbs < 2 ^ 400 → decide (i.natAbs.log2 < 1920) = true := fun i h => decide_eq_true (Nat.lt_of_lt_of_le (PySem.Flt.log2_lt_of (by decide) h) (by decide))
  show nices [.int x.1, .int x.2] = true
  simp only [nices, nice, f _ h.1, f _ h.2, Bool.and_self]
theorem four_shows {x y z u : Int × Int} (hx : low4 x) (hy : low4 y) (hz : low4 z) (hu : low4 u) : Shows (.list [tupD x, tupD y, tupD z, tupD u]) := by
  refine Shows.of ?_ ?_
  · show nices [tupD x, tupD y, tupD z, tupD u] = true
    simp only [nices, tupD_nice hx, tupD_nice hy, tupD_nice hz, tupD_nice hu, Bool.and_self]
  · show wgts [tupD x, tupD y, tupD z, tupD u] + 2 ≤ 10000000
    simp only [wgts, tupD, wgt]
    omega
theorem four_deep (x y z u : Int × Int) : (PyData.list [tupD x, tupD y, tupD z, tupD u]).depth ≤ 60 := by
  simp [PyData.depth, PyData.depthAll, tupD]
theorem dat_tup {K : PySem.W.Frag} {G : Hp} {p : Addr} {x : Int × Int} (h : G p = some (.tup [.int x.1, .int x.2])) : Dat K G (.ref p) (tupD x) := .tup (SqT.of h) (.cons (.int _) (.cons (.int _) .nil))
theorem two_shows {i : Int} {x : Str} (hi : i.natAbs ≤ 1) (hx : nice (.str x) = true) (hl : x.length ≤ 4000) : Shows (.list [.int i, .str x]) := by
  have f : decide (i.natAbs.log2 < 1920) = true := decide_eq_true (log_text (low100 hi (by decide)))
  refine Shows.of ?_ ?_
  · show nices [.int i, .str x] = true
    simp only [nices, nice] at hx ⊢
    simp only [f, hx, Bool.and_self]
  · show wgts [.int i, .str x] + 2 ≤ 10000000
    simp only [wgts, wgt]
    omega
theorem two_deep (i : Int) (x : Str) : (PyData.list [.int i, .str x]).depth ≤ 60 := by
  simp [PyData.depth, PyData.depthAll]
theorem sgn_small (x y : Int) : (sgn x y).natAbs ≤ 1 := by
  unfold sgn
  split
  · decide
  · split <;> decide
end K28

namespace K28
open PySem PySem.Spec PyProof.Rows L2 Vd Evl
/-! ### the bag, its list named -/
def BagC (H : Hp) (b c : Addr) : Prop := ∃ (x y z : Int) (ns : List Int), H b = some (.lst [.int x, .int y, .int z, .ref c]) ∧ H c = some (.lst (ns.map V.int)) ∧ ns.length ≤ 63
theorem BagC.at_ {H : Hp} {b c : Addr} (h : BagC H b c) : BagAt H b := by
  obtain ⟨x, y, z, ns, e1, e2, e3⟩ := h
  exact ⟨x, y, z, c, ns, e1, e2, e3⟩
theorem BagC.but {H G : Hp} {b c : Addr} (h : BagC H b c) (s : But b H G) : BagC G b c := by
  obtain ⟨x, y, z, ns, e1, e2, e3⟩ := h
  obtain ⟨x', y', z', e⟩ := s.2 _ _ _ _ e1
  exact ⟨x', y', z', ns, e, s.1 _ _ (bag_apart e1 e2) e2, e3⟩
theorem BagC.aside {H G : Hp} {b c m : Addr} (h : BagC H b c) (nb : b ≠ m) (nc : c ≠ m) (s : Aside m H G) : BagC G b c := by
  obtain ⟨x, y, z, ns, e1, e2, e3⟩ := h
  exact ⟨x, y, z, ns, s _ _ nb e1, s _ _ nc e2, e3⟩
theorem Row.aside {G G' : Hp} {C m : Addr} {fld : Str} {y v : V} {xs : List V} (at_m : G m = some (.lst xs)) (s : Aside m G G') (h : Row G C fld y v) : Row G' C fld y v := by
  obtain ⟨t, e, d, r, h1, h2, h3⟩ := h
  exact ⟨t, e, d, r, s _ _ (ne_of h1 at_m (fun z => by cases z)) h1, s _ _ (ne_of h2 at_m exo_lst) h2, s _ _ (ne_of h3 at_m exd_lst) h3⟩
theorem Bare.aside {G G' : Hp} {C m : Addr} {v : V} {xs : List V} (at_m : G m = some (.lst xs)) (s : Aside m G G') (h : Bare G C v) : Bare G' C v := by
  obtain ⟨t, e, r, h1, h2⟩ := h
  exact ⟨t, e, r, s _ _ (ne_of h1 at_m (fun z => by cases z)) h1, s _ _ (ne_of h2 at_m exo_lst) h2⟩
theorem Lot.up {G G' : Hp} {C : Cs} {l : Addr} {one two : V} (s : Same G G') (h : Lot G C l one two) : Lot G' C l one two := by
  obtain ⟨v0, v1, v2, v3, v4, v5, v6, v7, h, r0, r1, r2, r3, r4, r5, r6, r7⟩ := h
  exact ⟨v0, v1, v2, v3, v4, v5, v6, v7, s _ _ h, r0.up s, r1.up s, r2.up s, r3.up s, r4.up s, r5.up s, r6.up s, r7.up s⟩
theorem Lot.aside {G G' : Hp} {C : Cs} {l m : Addr} {one two : V} {xs : List V} (nl : l ≠ m) (at_m : G m = some (.lst xs)) (s : Aside m G G') (h : Lot G C l one two) : Lot G' C l one two := by
  obtain ⟨v0, v1, v2, v3, v4, v5, v6, v7, h, r0, r1, r2, r3, r4, r5, r6, r7⟩ := h
  exact ⟨v0, v1, v2, v3, v4, v5, v6, v7, s _ _ nl h, r0.aside at_m s, r1.aside at_m s, r2.aside at_m s, r3.aside at_m s, r4.aside at_m s, r5.aside at_m s, r6.aside at_m s, r7.aside at_m s⟩
/-- what is so of both lots while they are looked at -/
structure Stage (K : PySem.W.Frag) (C : Cs) (b c L l0 l1 : Addr) (M : Addr → Prop) (t1 t2 t3 t4 : V) (n : Nat) (G : Hp) : Prop where
  at_L : G L = some (.lst [.ref l0, .ref l1])
  bag : BagC G b c
  lot0 : Lot G C l0 t1 t2
  lot1 : Lot G C l1 t3 t4
  th : ∀ v, (v = t1 ∨ v = t2 ∨ v = t3 ∨ v = t4) → ∃ d, TH K M G v d ∧ Fits n d
structure Off (M : Addr → Prop) (b c L l0 l1 : Addr) : Prop where
  b : ¬ M b
  c : ¬ M c
  L : ¬ M L
  l0 : ¬ M l0
  l1 : ¬ M l1
theorem Fits.mono {m n : Nat} {d : PyData} (h : Fits m d) (le : m ≤ n) : Fits n d := ⟨h.1, Nat.le_trans h.2.1 le, h.2.2⟩
section
variable {K : PySem.W.Frag} {C : Cs} {b c L l0 l1 : Addr} {M : Addr → Prop} {t1 t2 t3 t4 : V} {n : Nat} {G G' : Hp}
theorem Stage.up (h : Stage K C b c L l0 l1 M t1 t2 t3 t4 n G) (s : Same G G') : Stage K C b c L l0 l1 M t1 t2 t3 t4 n G' :=
  ⟨s _ _ h.at_L, h.bag.but (But.of s), h.lot0.up s, h.lot1.up s, fun v m => by
    obtain ⟨d, x, y⟩ := h.th v m
    exact ⟨d, x.up s, y⟩⟩
theorem Stage.mono {m : Nat} (h : Stage K C b c L l0 l1 M t1 t2 t3 t4 n G) (le : n ≤ m) : Stage K C b c L l0 l1 M t1 t2 t3 t4 m G :=
  ⟨h.at_L, h.bag, h.lot0, h.lot1, fun v q => by
    obtain ⟨d, x, y⟩ := h.th v q
    exact ⟨d, x, y.mono le⟩⟩
theorem Stage.post (o : Off M b c L l0 l1) {v : V} (h : Stage K C b c L l0 l1 M t1 t2 t3 t4 n G) (p : Post K M v n G G') : Stage K C b c L l0 l1 M t1 t2 t3 t4 (n + 2000) G' := by
  rcases p with s | ⟨m, d', isM, rfl, s, ⟨xs, at_m⟩, _, th', fit'⟩
  · exact (h.up s).mono (Nat.le_add_right _ _)
  · have off : ∀ {p : Addr}, ¬ M p → p ≠ m := fun no z => no (z ▸ isM)
    refine ⟨s _ _ (off o.L) h.at_L, h.bag.aside (off o.b) (off o.c) s, h.lot0.aside (off o.l0) at_m s, h.lot1.aside (off o.l1) at_m s, fun u mu => ?_⟩
    by_cases e : u = .ref m
    · subst e
      exact ⟨d', th', fit'⟩
    · obtain ⟨d, x, y⟩ := h.th u mu
      exact ⟨d, x.but isM s e, y.mono (Nat.le_add_right _ _)⟩
end
/-- all of the errors' classes -/
structure AllK (K : PySem.W.Frag) (C : Cs) (cH : Addr) : Prop where
  a : Knows K C cH C.a 0
  b : Knows K C cH C.b 1
  c : Knows K C cH C.c 2
  d : Knows K C cH C.d 3
  e : Knows K C cH C.e 4
  f : Knows K C cH C.f 5
  g : Knows K C cH C.g 6
  h : Knows K C cH C.h 7
theorem lot_at {P : Program} {K : PySem.W.Frag} {mg : Str → Option Value} {C : Cs} {cH : Addr} (Z : Ers P K mg C) (A : AllK K C cH) {H : Hp} {l : Addr} {one two : V} (h : Lot H C l one two) (j : Nat) (j8 : j < 8) :
    ∃ (ts : List V) (r : V) (x : Addr), H l = some (.lst ts) ∧ ts[j]? = some r ∧ Knows K C cH x j ∧
      ((∃ (fld : Str) (v : V), fld ∈ fNames ∧ PySem.W.findIn K (.ref x) fld = some none ∧ Row H x fld v r ∧ (v = one ∨ v = two)) ∨ Bare H x r) := by
  obtain ⟨v0, v1, v2, v3, v4, v5, v6, v7, h, r0, r1, r2, r3, r4, r5, r6, r7⟩ := h
  obtain ⟨fa, da, Ea⟩ := Z.a
  obtain ⟨fb, db, Eb⟩ := Z.b
  obtain ⟨fc, dc, Ec⟩ := Z.c
  obtain ⟨fd', dd, Ed⟩ := Z.d
  obtain ⟨fe, de, Ee⟩ := Z.e
  obtain ⟨ff, df, Ef⟩ := Z.f
  match j, j8 with
  | 0, _ => exact ⟨_, v0, C.a, h, rfl, A.a, .inl ⟨"place", one, by decide +kernel, Ea.nof, r0, .inl rfl⟩⟩
  | 1, _ => exact ⟨_, v1, C.b, h, rfl, A.b, .inl ⟨"line", two, by decide +kernel, Eb.nof, r1, .inr rfl⟩⟩
  | 2, _ => exact ⟨_, v2, C.c, h, rfl, A.c, .inl ⟨"ring", one, by decide +kernel, Ec.nof, r2, .inl rfl⟩⟩
  | 3, _ => exact ⟨_, v3, C.d, h, rfl, A.d, .inl ⟨"most", two, by decide +kernel, Ed.nof, r3, .inr rfl⟩⟩
  | 4, _ => exact ⟨_, v4, C.e, h, rfl, A.e, .inl ⟨"name", one, by decide +kernel, Ee.nof, r4, .inl rfl⟩⟩
  | 5, _ => exact ⟨_, v5, C.f, h, rfl, A.f, .inl ⟨"index", two, by decide +kernel, Ef.nof, r5, .inr rfl⟩⟩
  | 6, _ => exact ⟨_, v6, C.g, h, rfl, A.g, .inr r6⟩
  | 7, _ => exact ⟨_, v7, C.h, h, rfl, A.h, .inr r7⟩
  | j + 8, no => exact absurd no (by omega)
/-! ### what was made, as things -/
theorem item_dat {K : PySem.W.Frag} {H G : Hp} {v : V} {d : PyData} (h : Item K H G v d) : Dat K (newP H G) v d := by
  rcases h with ⟨a, xs, ds, F, rfl, rfl, e3, e4, e5, e6, e7⟩ | ⟨e1, e2⟩
  · exact .lst (SqL.of (newP_of e3 e4)) (DatAll.up (sub_newP e5) e7)
  · exact e2
theorem TH.item {K : PySem.W.Frag} {M : Addr → Prop} {H G G' : Hp} {v : V} {d : PyData} (h : Item K H G v d) (apart : ∀ p, M p → (∃ o, H p = some o) ∨ G p = none ∨ (V.ref p = v ∧ isListD d = true)) (own : isListD d = true → ∀ a, v = .ref a → M a)
    (s : ∀ p o, H p = none → G p = some o → G' p = some o) : TH K M G' v d := by
  rcases h with ⟨a, xs, ds, F, rfl, rfl, e3, e4, e5, e6, e7⟩ | ⟨e1, e2⟩
  · refine ⟨F, fun p o e => ⟨s _ _ (e5 p o e).1 (e5 p o e).2, fun isM => ?_⟩, .inl ⟨a, xs, ds, rfl, own rfl a rfl, s _ _ e3 e4, rfl, e7⟩⟩
    rcases apart p isM with ⟨u, z⟩ | z | ⟨z, _⟩
    · rw [(e5 p o e).1] at z
      cases z
    · rw [(e5 p o e).2] at z
      cases z
    · cases z
      rw [e6] at e
      cases e
  · refine ⟨newP H G, fun p o e => ⟨s _ _ (newP_sub H G p o e).1 (newP_sub H G p o e).2, fun isM => ?_⟩, .inr ⟨e1, e2⟩⟩
    rcases apart p isM with ⟨u, z⟩ | z | ⟨_, z⟩
    · rw [(newP_sub H G p o e).1] at z
      cases z
    · rw [(newP_sub H G p o e).2] at z
      cases z
    · rw [e1] at z
      cases z
theorem TH.one {K : PySem.W.Frag} {M : Addr → Prop} {H G G' : Hp} {v : V} {d : PyData} {q : Addr} (h : Item K H G v d) (apart : ∀ p, M p → (∃ o, H p = some o) ∨ G p = none) (isM : M q) (at_q : G' q = some (.lst [v]))
    (s : ∀ p o, H p = none → G p = some o → G' p = some o) : TH K M G' (.ref q) (.list [d]) := by
  refine ⟨newP H G, fun p o e => ⟨s _ _ (newP_sub H G p o e).1 (newP_sub H G p o e).2, fun isM => ?_⟩, .inl ⟨q, [v], [d], rfl, isM, at_q, rfl, .cons (item_dat h) .nil⟩⟩
  rcases apart p isM with ⟨u, z⟩ | z
  · rw [(newP_sub H G p o e).1] at z
    cases z
  · rw [(newP_sub H G p o e).2] at z
    cases z
theorem Odd.fits {d : PyData} (h : Odd d) : Fits 8100 d := ⟨h.1, by have := h.2.1; omega, by have := h.2.2; omega⟩
theorem Odd.fits1 {d : PyData} (h : Odd d) : Fits 8100 (.list [d]) := by
  refine ⟨?_, ?_, ?_⟩
  · have := h.1
    simpa [nice, nices] using this
  · have := h.2.1
    show wgts [d] + 2 ≤ 8100
    simp only [wgts]
    omega
  · have := h.2.2
    show PyData.depthAll [d] + 1 ≤ 40
    simp only [PyData.depthAll]
    omega
theorem item_list {K : PySem.W.Frag} {H G : Hp} {v : V} {d : PyData} (h : Item K H G v d) (l : isListD d = true) : ∃ a xs, v = .ref a ∧ H a = none ∧ G a = some (.lst xs) := by
  rcases h with ⟨a, xs, ds, F, e1, e2, e3, e4, e5, e6, e7⟩ | ⟨e1, e2⟩
  · exact ⟨a, xs, e1, e3, e4⟩
  · rw [e1] at l
    cases l
theorem stage0 {K : PySem.W.Frag} {C : Cs} {b c q1 q2 l0 l1 L : Addr} {G1 G2 G3 G5 G6 G8 G9 : Hp} {o1 o2 o3 o4 : V} {d1 d2 d3 d4 : PyData} (bag1 : BagC G1 b c)
    (but2 : But b G1 G2) (it1 : Item K G1 G2 o1 d1) (od1 : Odd d1) (but3 : But b G2 G3) (it2 : Item K G2 G3 o2 d2) (od2 : Odd d2) (nq1 : G3 q1 = none) (s5 : Same (upd G3 q1 (.lst [o2])) G5) (nl0 : (upd G3 q1 (.lst [o2])) l0 = none) (lot0 : Lot G5 C l0 o1 (.ref q1))
    (but6 : But b G5 G6) (it3 : Item K G5 G6 o3 d3) (od3 : Odd d3) (nq2 : G6 q2 = none) (but8 : But b (upd G6 q2 (.lst [o3])) G8) (it4 : Item K (upd G6 q2 (.lst [o3])) G8 o4 d4) (od4 : Odd d4) (s9 : Same G8 G9) (nl1 : G8 l1 = none) (lot1 : Lot G9 C l1 (.ref q2) o4) (nL : G9 L = none) :
    ∃ M : Addr → Prop, Off M b c L l0 l1 ∧ Stage K C b c L l0 l1 M o1 (.ref q1) (.ref q2) o4 8100 (upd G9 L (.lst [.ref l0, .ref l1])) ∧ ∀ p, M p → ∃ o, upd G9 L (.lst [.ref l0, .ref l1]) p = some o := by
  have b34 : But b G3 (upd G3 q1 (.lst [o2])) := (But.refl b G3).new nq1
  have b45 := But.of (b := b) s5
  have b67 : But b G6 (upd G6 q2 (.lst [o3])) := (But.refl b G6).new nq2
  have b89 := But.of (b := b) s9
  have b9X : But b G9 (upd G9 L (.lst [.ref l0, .ref l1])) := (But.refl b G9).new nL
  have bag2 := bag1.but but2
  have bag3 := bag2.but but3
  have bag4 := bag3.but b34
  have bag5 := bag4.but b45
  have bag6 := bag5.but but6
  have bag7 := bag6.but b67
  have bag8 := bag7.but but8
  have bag9 := bag8.but b89
  have bagX := bag9.but b9X
  -- q1
  obtain ⟨q1b, q1_2⟩ := But.free but3 bag3.at_ nq1
  obtain ⟨_, q1_1⟩ := But.free but2 bag2.at_ q1_2
  have q1_4 : (upd G3 q1 (.lst [o2])) q1 = some (.lst [o2]) := upd_same
  have q1_5 := s5 _ _ q1_4
  have q1_6 := but6.1 _ _ q1b q1_5
  have q1_7 := b67.1 _ _ q1b q1_6
  have q1_8 := but8.1 _ _ q1b q1_7
  have q1_9 := s9 _ _ q1_8
  have q1_X := b9X.1 _ _ q1b q1_9
  -- q2
  obtain ⟨q2b, q2_5⟩ := But.free but6 bag6.at_ nq2
  have q2_4 := s5.free q2_5
  obtain ⟨_, q2_3⟩ := But.free b34 bag4.at_ q2_4
  obtain ⟨_, q2_2⟩ := But.free but3 bag3.at_ q2_3
  obtain ⟨_, q2_1⟩ := But.free but2 bag2.at_ q2_2
  have q2_7 : (upd G6 q2 (.lst [o3])) q2 = some (.lst [o3]) := upd_same
  have q2_8 := but8.1 _ _ q2b q2_7
  have q2_9 := s9 _ _ q2_8
  have q2_X := b9X.1 _ _ q2b q2_9
  -- o1, o4
  have m1 : isListD d1 = true → ∀ p, V.ref p = o1 → p ≠ b ∧ G1 p = none ∧ ∃ xs, G2 p = some (.lst xs) := fun l p e => by
    obtain ⟨a, xs, e1, e2, e3⟩ := item_list it1 l
    rw [e1] at e
    cases e
    have nb : p ≠ b := fun z => by
      obtain ⟨_, _, _, _, y, _⟩ := bag1
      rw [← z, e2] at y
      cases y
    exact ⟨nb, e2, xs, e3⟩
  have m4 : isListD d4 = true → ∀ p, V.ref p = o4 → p ≠ b ∧ (upd G6 q2 (.lst [o3])) p = none ∧ ∃ xs, G8 p = some (.lst xs) := fun l p e => by
    obtain ⟨a, xs, e1, e2, e3⟩ := item_list it4 l
    rw [e1] at e
    cases e
    have nb : p ≠ b := fun z => by
      obtain ⟨_, _, _, _, y, _⟩ := bag7
      rw [← z, e2] at y
      cases y
    exact ⟨nb, e2, xs, e3⟩
  have up1 : ∀ {p : Addr} {u : HO}, p ≠ b → G2 p = some u → (upd G3 q1 (.lst [o2])) p = some u ∧ G5 p = some u ∧ G6 p = some u ∧ (upd G6 q2 (.lst [o3])) p = some u ∧ G8 p = some u ∧ G9 p = some u ∧ (upd G9 L (.lst [.ref l0, .ref l1])) p = some u := fun {p u} n e => by
    have e3 := but3.1 _ _ n e
    have e4 := b34.1 _ _ n e3
    have e5 := s5 _ _ e4
    have e6 := but6.1 _ _ n e5
    have e7 := b67.1 _ _ n e6
    have e8 := but8.1 _ _ n e7
    have e9 := s9 _ _ e8
    exact ⟨e4, e5, e6, e7, e8, e9, b9X.1 _ _ n e9⟩
  have dn7 : ∀ {p : Addr}, (upd G6 q2 (.lst [o3])) p = none → G6 p = none ∧ G5 p = none ∧ (upd G3 q1 (.lst [o2])) p = none ∧ G3 p = none ∧ G2 p = none ∧ G1 p = none := fun {p} n7 => by
    have n6 := (But.free b67 bag7.at_ n7).2
    have n5 := (But.free but6 bag6.at_ n6).2
    have n4 := s5.free n5
    have n3 := (But.free b34 bag4.at_ n4).2
    have n2 := (But.free but3 bag3.at_ n3).2
    exact ⟨n6, n5, n4, n3, n2, (But.free but2 bag2.at_ n2).2⟩
  have old : ∀ p, (p = q1 ∨ p = q2 ∨ (V.ref p = o1 ∧ isListD d1 = true) ∨ (V.ref p = o4 ∧ isListD d4 = true)) → G1 p = none := by
    rintro p (rfl | rfl | ⟨e, l⟩ | ⟨e, l⟩)
    · exact q1_1
    · exact q2_1
    · exact (m1 l p e).2.1
    · exact (dn7 (m4 l p e).2.1).2.2.2.2.2
  have new8 : ∀ p, (p = q1 ∨ p = q2 ∨ (V.ref p = o1 ∧ isListD d1 = true) ∨ (V.ref p = o4 ∧ isListD d4 = true)) → p ≠ b ∧ ∃ o, G8 p = some o := by
    rintro p (rfl | rfl | ⟨e, l⟩ | ⟨e, l⟩)
    · exact ⟨q1b, _, q1_8⟩
    · exact ⟨q2b, _, q2_8⟩
    · obtain ⟨n, _, xs, z⟩ := m1 l p e
      exact ⟨n, _, (up1 n z).2.2.2.2.1⟩
    · obtain ⟨n, _, xs, z⟩ := m4 l p e
      exact ⟨n, _, z⟩
  have at_l0 : ∃ xs, G5 l0 = some (.lst xs) := by
    obtain ⟨_, _, _, _, _, _, _, _, e, _⟩ := lot0
    exact ⟨_, e⟩
  obtain ⟨ls, l0_5⟩ := at_l0
  have l0b : l0 ≠ b := fun z => by
    obtain ⟨_, _, _, _, e, _⟩ := bag4
    rw [← z, nl0] at e
    cases e
  have l0_6 := but6.1 _ _ l0b l0_5
  have l0_7 := b67.1 _ _ l0b l0_6
  have l0_8 := but8.1 _ _ l0b l0_7
  refine ⟨fun p => p = q1 ∨ p = q2 ∨ (V.ref p = o1 ∧ isListD d1 = true) ∨ (V.ref p = o4 ∧ isListD d4 = true), ⟨fun m => (new8 b m).1 rfl, fun m => ?_, fun m => ?_, ?_, fun m => ?_⟩, ⟨upd_same, bagX, ?_, ?_, ?_⟩, fun p m => ?_⟩
  · obtain ⟨_, _, _, _, _, e, _⟩ := bag1
    rw [old c m] at e
    cases e
  · obtain ⟨_, o, e⟩ := new8 L m
    rw [s9 _ _ e] at nL
    cases nL
  · rintro (e | e | ⟨e, l⟩ | ⟨e, l⟩)
    · rw [e, q1_4] at nl0
      cases nl0
    · rw [e, nq2] at l0_6
      cases l0_6
    · obtain ⟨n, _, xs, z⟩ := m1 l l0 e
      rw [(up1 n z).1] at nl0
      cases nl0
    · obtain ⟨n, z, _⟩ := m4 l l0 e
      rw [z] at l0_7
      cases l0_7
  · obtain ⟨_, o, e⟩ := new8 l1 m
    rw [e] at nl1
    cases nl1
  · obtain ⟨x5, y5, z5, _, at5, _⟩ := id bag5
    obtain ⟨x7, y7, z7, _, at7, _⟩ := id bag7
    exact (((((lot0.aside l0b at5 but6.1).up (same_new nq2)).aside l0b at7 but8.1).up s9).up (same_new nL))
  · exact lot1.up (same_new nL)
  · rintro v (rfl | rfl | rfl | rfl)
    · refine ⟨d1, TH.item it1 ?_ (fun l a e => .inr (.inr (.inl ⟨e.symm, l⟩))) (fun p o n e => ?_), od1.fits⟩
      · rintro p (rfl | rfl | ⟨e, l⟩ | ⟨e, l⟩)
        · exact .inr (.inl q1_2)
        · exact .inr (.inl q2_2)
        · exact .inr (.inr ⟨e, l⟩)
        · exact .inr (.inl (dn7 (m4 l p e).2.1).2.2.2.2.1)
      · have nb : p ≠ b := fun z => by
          obtain ⟨_, _, _, _, y, _⟩ := bag1
          rw [z] at n
          rw [n] at y
          cases y
        exact (up1 nb e).2.2.2.2.2.2
    · refine ⟨.list [d2], TH.one it2 ?_ (.inl rfl) q1_X (fun p o n e => ?_), od2.fits1⟩
      · rintro p (rfl | rfl | ⟨e, l⟩ | ⟨e, l⟩)
        · exact .inr nq1
        · exact .inr q2_3
        · obtain ⟨n, _, xs, z⟩ := m1 l p e
          exact .inl ⟨_, z⟩
        · exact .inr (dn7 (m4 l p e).2.1).2.2.2.1
      · have nb : p ≠ b := fun z => by
          obtain ⟨_, _, _, _, y, _⟩ := bag2
          rw [z] at n
          rw [n] at y
          cases y
        exact b9X.1 _ _ nb (s9 _ _ (but8.1 _ _ nb (b67.1 _ _ nb (but6.1 _ _ nb (s5 _ _ (b34.1 _ _ nb e))))))
    · refine ⟨.list [d3], TH.one it3 ?_ (.inr (.inl rfl)) q2_X (fun p o n e => ?_), od3.fits1⟩
      · rintro p (rfl | rfl | ⟨e, l⟩ | ⟨e, l⟩)
        · exact .inl ⟨_, q1_5⟩
        · exact .inr nq2
        · obtain ⟨n, _, xs, z⟩ := m1 l p e
          exact .inl ⟨_, (up1 n z).2.1⟩
        · exact .inr (dn7 (m4 l p e).2.1).1
      · have nb : p ≠ b := fun z => by
          obtain ⟨_, _, _, _, y, _⟩ := bag5
          rw [z] at n
          rw [n] at y
          cases y
        exact b9X.1 _ _ nb (s9 _ _ (but8.1 _ _ nb (b67.1 _ _ nb e)))
    · refine ⟨d4, TH.item it4 ?_ (fun l a e => .inr (.inr (.inr ⟨e.symm, l⟩))) (fun p o n e => ?_), od4.fits⟩
      · rintro p (rfl | rfl | ⟨e, l⟩ | ⟨e, l⟩)
        · exact .inl ⟨_, q1_7⟩
        · exact .inl ⟨_, q2_7⟩
        · obtain ⟨n, _, xs, z⟩ := m1 l p e
          exact .inl ⟨_, (up1 n z).2.2.2.1⟩
        · exact .inr (.inr ⟨e, l⟩)
      · have nb : p ≠ b := fun z => by
          obtain ⟨_, _, _, _, y, _⟩ := bag7
          rw [z] at n
          rw [n] at y
          cases y
        exact b9X.1 _ _ nb (s9 _ _ e)
  · obtain ⟨n, o, e⟩ := new8 p m
    exact ⟨o, b9X.1 _ _ n (s9 _ _ e)⟩
end K28

namespace K28
open PySem PySem.Spec PyProof.Rows L2 Vd Evl
abbrev sLaw : Stmt := topS 32
def lawN : List Str := ["script", "bag", "lots", "lot", "great", "near", "far", "turn", "one", "other", "a", "b", "c", "d", "factor", "due", "found", "order", "text", "at"]
theorem scLaw : FnScope lawN ["script"] (defScope sLaw) := ⟨rfl, rfl, rfl, by decide +kernel, rfl, by decide +kernel, by decide +kernel⟩
def spLaw (K : PySem.W.Frag) : Sp := fun vs H Q _ => ∃ (a : Addr) (ns : List Int), vs = [.ref a] ∧ SqL K H a (ns.map V.int) ∧ ns.length ≤ 63 ∧ ∀ H', Q (.bl true) H'
/-- the defs of the text -/
structure Txt (K : PySem.W.Frag) (mg : Str → Option Value) where
  fBag : Addr
  fTake : Addr
  fSome : Addr
  fAlike : Addr
  fOdd : Addr
  fLCom : Addr
  fLRed : Addr
  fInt : Addr
  fFrac : Addr
  fErr : Addr
  fFld : Addr
  fKin : Addr
  fRight : Addr
  fRed : Addr
  fAdd : Addr
  fLess : Addr
  fTimes : Addr
  fComp : Addr
  fText : Addr
  dBag : FuncData
  dTake : FuncData
  dSome : FuncData
  dAlike : FuncData
  dOdd : FuncData
  dLCom : FuncData
  dLRed : FuncData
  dInt : FuncData
  dFrac : FuncData
  dErr : FuncData
  dFld : FuncData
  dKin : FuncData
  dRight : FuncData
  dRed : FuncData
  dAdd : FuncData
  dLess : FuncData
  dTimes : FuncData
  dComp : FuncData
  dText : FuncData
  Bag : At K mg "_law_bag" sBag ["script"] fBag dBag
  Take : At K mg "_law_take" sTake ["bag", "many"] fTake dTake
  Some_ : At K mg "_law_some" sSome ["bag", "things"] fSome dSome
  Alike : At K mg "_law_alike" sAlike ["found", "due"] fAlike dAlike
  Odd : At K mg "_law_odd" sOdd ["bag"] fOdd dOdd
  LCom : At K mg "_law_common" sLCom ["one", "other"] fLCom dLCom
  LRed : At K mg "_law_reduced" sLRed ["n", "d"] fLRed dLRed
  Int_ : At K mg "_law_integer" sInt ["bag"] fInt dInt
  Frac : At K mg "_law_fraction" sFrac ["bag"] fFrac dFrac
  Err : At K mg "_law_errors" sErr ["one", "two"] fErr dErr
  Fld : At K mg "_law_field" sFld ["error", "name"] fFld dFld
  Kin : At K mg "_law_kinds" sKin ["error"] fKin dKin
  Right : At K mg "_law_is_error_right" sRight ["lot", "at"] fRight dRight
  Red : At K mg "reduced" sRed ["n", "d"] fRed dRed
  Add : At K mg "added" sAdd ["one", "other"] fAdd dAdd
  Less : At K mg "lessened" sLess ["one", "other"] fLess dLess
  Times : At K mg "times" sTimes ["one", "other"] fTimes dTimes
  Comp : At K mg "compared" sComp ["one", "other"] fComp dComp
  Text : At K mg "fraction_text" sText ["one"] fText dText
  mInt : mg "int" = none
  mLen : mg "len" = none
  mAbs : mg "abs" = none
  mRepr : mg "repr" = none
  mIsi : mg "isinstance" = none
  mVE : mg "ValueError" = none
  mRange : mg "range" = none
  mList : mg "list" = none
  mStr : mg "str" = none
  mGcd : mg "gcd" = some (.builtin "math.gcd")
section
variable {P : Program} {w : World} {K : PySem.W.Frag} {mg : Str → Option Value} {base : Heap}
theorem ok_law {C : Cs} {cH f : Addr} {fd : FuncData} (F : Fun K "law" "law" sLaw f fd) (T : Txt K mg) (Z : Ers P K mg C) (A : AllK K C cH) (N : Names mg C) (nH : mg "HallError" = some (.ref cH)) (L_ : KL K) :
    FnG P w K mg base 5 f fd ["script"] (spLaw K) := by
  have GB : FnOk P w K mg base CX0 1 T.fBag T.dBag ["script"] (spBag K) := ok_bag T.Bag.fn T.mAbs
  have GT : FnOk P w K mg base CX0 1 T.fTake T.dTake ["bag", "many"] spTake := ok_take T.Take.fn T.mInt
  have GS : FnOk P w K mg base CX0 2 T.fSome T.dSome ["bag", "things"] (spSome K) := ok_some T.Some_ T.Take T.mInt T.mLen
  have GA : FnG P w K mg base 1 T.fAlike T.dAlike ["found", "due"] (spAlike K) := ok_alike T.Alike T.mRepr
  have GO : FnOk P w K mg base CX0 3 T.fOdd T.dOdd ["bag"] (spOdd K) := ok_odd T.Odd T.Take T.Some_ T.mInt T.mLen
  have GE : FnOk P w K mg base CX0 3 T.fErr T.dErr ["one", "two"] (spErr C) := ok_err Z T.Err
  have GR : FnG P w K mg base 2 T.fRight T.dRight ["lot", "at"] (spRight K C cH) := ok_right T.Right T.Kin T.Fld T.Alike N nH T.mIsi T.mRepr T.mVE T.mRange T.mList L_
  have GF : FnOk P w K mg base CX0 4 T.fFrac T.dFrac ["bag"] spFrac := ok_frac T.Take T.Some_ T.mInt T.mLen T.Frac T.LRed T.LCom T.Int_ T.mAbs
  have GLR : FnOk P w K mg base CX0 2 T.fLRed T.dLRed ["n", "d"] spRed := ok_lred T.LRed T.LCom T.mAbs T.mInt
  have GRed : FnOk P w K mg base CX0 1 T.fRed T.dRed ["n", "d"] spRed := ok_red T.Red T.mGcd
  have GAdd : FnOk P w K mg base CX0 2 T.fAdd T.dAdd ["one", "other"] (spAdd K) := ok_add T.Red T.mGcd T.Add
  have GLess : FnOk P w K mg base CX0 2 T.fLess T.dLess ["one", "other"] (spLess K) := ok_less T.Red T.mGcd T.Less
  have GTimes : FnOk P w K mg base CX0 2 T.fTimes T.dTimes ["one", "other"] (spTimes K) := ok_times T.Red T.mGcd T.Times
  have GComp : FnOk P w K mg base CX0 1 T.fComp T.dComp ["one", "other"] (spComp K) := ok_comp T.Comp
  have GText : FnOk P w K mg base CX0 1 T.fText T.dText ["one"] (spText K) := ok_text T.Text T.mStr
  refine okG F scLaw (fun vs H Q E h => ?_) (fun cdv A0 outer s H vs Q E hr gd h => ?_)
  · obtain ⟨a, ns, rfl, _⟩ := h
    rfl
  · obtain ⟨a, ns, rfl, hS, few, fin⟩ := h
    have nd := scLaw.nd
    have hr1 : Room 1 _ := hr.mono (by decide)
    have hr2 : Room 2 _ := hr.mono (by decide)
    have hr3 : Room 3 _ := hr.mono (by decide)
    refine ⟨_, pss_cons (ps_set (i := 1) nd rfl (Or.inl rfl) (pe_call GB hr1 (by rfl) T.Bag.g T.Bag.fn.kp T.Bag.b .nil pass0 (pa_cons (pv 0) pa_nil)))
      (pss_cut (ps_set (i := 2) nd rfl (Or.inl rfl) (pe_lst (pa_cons (pe_call GE hr3 (by rfl) T.Err.g T.Err.fn.kp T.Err.b .nil pass0 (pa_cons (pe_call GO hr3 (by rfl) T.Odd.g T.Odd.fn.kp T.Odd.b .nil pass0 (pa_cons (pv 1) pa_nil)) (pa_cons (pe_lst (pa_cons (pe_call GO hr3 (by rfl) T.Odd.g T.Odd.fn.kp T.Odd.b .nil pass0 (pa_cons (pv 1) pa_nil)) pa_nil)) pa_nil))) (pa_cons (pe_call GE hr3 (by rfl) T.Err.g T.Err.fn.kp T.Err.b .nil pass0 (pa_cons (pe_lst (pa_cons (pe_call GO hr3 (by rfl) T.Odd.g T.Odd.fn.kp T.Odd.b .nil pass0 (pa_cons (pv 1) pa_nil)) pa_nil)) (pa_cons (pe_call GO hr3 (by rfl) T.Odd.g T.Odd.fn.kp T.Odd.b .nil pass0 (pa_cons (pv 1) pa_nil)) pa_nil))) pa_nil))))
      (pss_cut (ps_for PassesOwn.never rfl (pi_list (pv 2)) (pg_name (i := 3) nd rfl (Or.inr rfl)) (pss_one (ps_if (pt_cmpR (op_neD hr.units) (pe_lc (own := [("at", 19)]) (g := gName 19) rfl nd (pi_range1 (by rfl) T.mRange (pa_cons pe_int pa_nil)) (blkOk_by (N := lawN) (sc := defScope sLaw) (by decide +kernel)) (fun _ _ _ _ _ => pg_name (i := 19) nd rfl (Or.inl rfl)) (fun _ _ _ _ _ => pts_one (pt_not (pt_val (callG GR hr2 gd (by rfl) T.Right.g T.Right.fn.kp T.Right.b (pa_cons (pv 3) (pa_cons (pv 19) pa_nil)))))) (fun _ _ _ _ _ => pv 19)) (pe_lst pa_nil) (by rfl)) (pss_one (ps_ret pe_bl)) pss_nil)))
      (pss_cut (ps_set (i := 4) nd rfl (Or.inl rfl) (pe_op op_add (pe_op op_pow pe_int pe_int) (pe_call GT hr1 (by rfl) T.Take.g T.Take.fn.kp T.Take.b .nil pass0 (pa_cons (pv 1) (pa_cons pe_int pa_nil)))))
      (pss_cut (ps_par (i := 5) (j := 6) (by rfl) nd rfl rfl (by decide) rfl rfl (pa_cons (pe_tup (pa_cons (pe_op op_add (pv 4) pe_int) (pa_cons (pv 4) pa_nil))) (pa_cons (pe_tup (pa_cons (pv 4) (pa_cons (pe_op op_sub (pv 4) pe_int) pa_nil))) pa_nil)) (by rfl))
      (pss_cut (ps_if (pt_not (pt_val (callG GA hr1 gd (by rfl) T.Alike.g T.Alike.fn.kp T.Alike.b (pa_cons (pe_lst (pa_cons (pe_call GComp hr1 (by rfl) T.Comp.g T.Comp.fn.kp T.Comp.b .nil pass0 (pa_cons (pv 5) (pa_cons (pv 6) pa_nil))) (pa_cons (pe_call GComp hr1 (by rfl) T.Comp.g T.Comp.fn.kp T.Comp.b .nil pass0 (pa_cons (pv 6) (pa_cons (pv 5) pa_nil))) (pa_cons (pe_call GComp hr1 (by rfl) T.Comp.g T.Comp.fn.kp T.Comp.b .nil pass0 (pa_cons (pv 5) (pa_cons (pv 5) pa_nil))) pa_nil)))) (pa_cons (pe_lst (pa_cons (pe_un un_neg pe_int) (pa_cons pe_int (pa_cons pe_int pa_nil)))) pa_nil))))) (pss_one (ps_ret pe_bl)) pss_nil)
      (pss_cons (ps_for PassesOwn.never rfl (pi_range1 (by rfl) T.mRange (pa_cons pe_int pa_nil)) (pg_name (i := 7) nd rfl (Or.inl rfl))
          (pss_cut (ps_par (i := 8) (j := 9) (by rfl) nd rfl rfl (by decide) rfl rfl (pa_cons (pe_call GF hr (by rfl) T.Frac.g T.Frac.fn.kp T.Frac.b .nil pass0 (pa_cons (pv 1) pa_nil)) (pa_cons (pe_call GF hr (by rfl) T.Frac.g T.Frac.fn.kp T.Frac.b .nil pass0 (pa_cons (pv 1) pa_nil)) pa_nil)) (by rfl))
          (pss_cons (ps_asg (pv 8) (pg_tup rfl (pgs_cons (pg_name (i := 10) nd rfl (Or.inl rfl)) (pgs_cons (pg_name (i := 11) nd rfl (Or.inl rfl)) pgs_nil))))
          (pss_cons (ps_asg (pv 9) (pg_tup rfl (pgs_cons (pg_name (i := 12) nd rfl (Or.inl rfl)) (pgs_cons (pg_name (i := 13) nd rfl (Or.inl rfl)) pgs_nil))))
          (pss_cut (ps_set (i := 14) nd rfl (Or.inl rfl) (pe_call GS hr2 (by rfl) T.Some_.g T.Some_.fn.kp T.Some_.b .nil pass0 (pa_cons (pv 1) (pa_cons (pe_lst (pa_cons pe_int (pa_cons (pe_un un_neg pe_int) (pa_cons pe_int (pa_cons (pe_un un_neg pe_int) pa_nil))))) pa_nil))))
          (pss_cut (ps_set (i := 15) nd rfl (Or.inl rfl) (pe_lst (pa_cons (pv 8) (pa_cons (pe_call GLR hr2 (by rfl) T.LRed.g T.LRed.fn.kp T.LRed.b .nil pass0 (pa_cons (pe_op op_add (pe_op op_mulW (pv 10) (pv 13)) (pe_op op_mulW (pv 11) (pv 12))) (pa_cons (pe_op op_mulW (pv 11) (pv 13)) pa_nil))) (pa_cons (pe_call GLR hr2 (by rfl) T.LRed.g T.LRed.fn.kp T.LRed.b .nil pass0 (pa_cons (pe_op op_sub (pe_op op_mulW (pv 10) (pv 13)) (pe_op op_mulW (pv 11) (pv 12))) (pa_cons (pe_op op_mulW (pv 11) (pv 13)) pa_nil))) (pa_cons (pe_call GLR hr2 (by rfl) T.LRed.g T.LRed.fn.kp T.LRed.b .nil pass0 (pa_cons (pe_op op_mulW (pv 10) (pv 12)) (pa_cons (pe_op op_mulW (pv 11) (pv 13)) pa_nil))) pa_nil))))))
          (pss_cut (ps_set (i := 16) nd rfl (Or.inl rfl) (pe_lst (pa_cons (pe_call GRed hr1 (by rfl) T.Red.g T.Red.fn.kp T.Red.b .nil pass0 (pa_cons (pe_op op_mulW (pv 10) (pv 14)) (pa_cons (pe_op op_mulW (pv 11) (pv 14)) pa_nil))) (pa_cons (pe_call GAdd hr2 (by rfl) T.Add.g T.Add.fn.kp T.Add.b .nil pass0 (pa_cons (pv 8) (pa_cons (pv 9) pa_nil))) (pa_cons (pe_call GLess hr2 (by rfl) T.Less.g T.Less.fn.kp T.Less.b .nil pass0 (pa_cons (pv 8) (pa_cons (pv 9) pa_nil))) (pa_cons (pe_call GTimes hr2 (by rfl) T.Times.g T.Times.fn.kp T.Times.b .nil pass0 (pa_cons (pv 8) (pa_cons (pv 9) pa_nil))) pa_nil))))))
          (pss_cut (ps_if (pt_not (pt_val (callG GA hr1 gd (by rfl) T.Alike.g T.Alike.fn.kp T.Alike.b (pa_cons (pv 16) (pa_cons (pv 15) pa_nil))))) (pss_one (ps_ret pe_bl)) pss_nil)
          (pss_cut (ps_set (i := 17) nd rfl (Or.inl rfl) (pe_op op_sub (pe_callTy call_int1 (by rfl) T.mInt (by decide +kernel) (pa_cons (pe_cmpR op_gt (pe_op op_mulW (pv 10) (pv 13)) (pe_op op_mulW (pv 11) (pv 12)) (nomark _)) pa_nil)) (pe_callTy call_int1 (by rfl) T.mInt (by decide +kernel) (pa_cons (pe_cmpR op_lt (pe_op op_mulW (pv 10) (pv 13)) (pe_op op_mulW (pv 11) (pv 12)) (nomark _)) pa_nil))))
          (pss_cut (ps_set (i := 18) nd rfl (Or.inl rfl) (pe_op op_add_str (pe_callTy call_str_int (by rfl) T.mStr (by decide +kernel) (pa_cons (pv 10) pa_nil)) (pe_ifExp (pt_cmpR op_ne (pv 11) pe_int (nomark _)) (pe_op op_add_str pe_str (pe_callTy call_str_int (by rfl) T.mStr (by decide +kernel) (pa_cons (pv 11) pa_nil))) pe_str)))
          (pss_one (ps_if (pt_not (pt_val (callG GA hr1 gd (by rfl) T.Alike.g T.Alike.fn.kp T.Alike.b (pa_cons (pe_lst (pa_cons (pe_call GComp hr1 (by rfl) T.Comp.g T.Comp.fn.kp T.Comp.b .nil pass0 (pa_cons (pv 8) (pa_cons (pv 9) pa_nil))) (pa_cons (pe_call GText hr1 (by rfl) T.Text.g T.Text.fn.kp T.Text.b .nil pass0 (pa_cons (pv 8) pa_nil)) pa_nil))) (pa_cons (pe_lst (pa_cons (pv 17) (pa_cons (pv 18) pa_nil))) pa_nil))))) (pss_one (ps_ret pe_bl)) pss_nil))))))))))))
      (pss_one (ps_ret pe_bl)))))))), ?_⟩
    refine ⟨_, rfl, a, ns, rfl, hS, few, fun G1 b s1 nb bag0 => ?_⟩
    obtain ⟨x0, y0, z0, c, ns0, hb1, hb2, hb3⟩ := bag0
    have bag1 : BagC G1 b c := ⟨x0, y0, z0, ns0, hb1, hb2, hb3⟩
    -- the lots
    refine ⟨fun σ' G => ∃ (L l0 l1 : Addr) (M : Addr → Prop) (t1 t2 t3 t4 : V), σ' = ([some (.ref a), some (.ref b), some (.ref L), none, none, none, none, none, none, none, none, none, none, none, none, none, none, none, none, none] : L2.St) ∧
      Off M b c L l0 l1 ∧ Stage K C b c L l0 l1 M t1 t2 t3 t4 8100 G ∧ ∀ p, M p → ∃ o, G p = some o, ?_, ?_⟩
    · refine ⟨_, rfl, b, rfl, bag1.at_, fun G2 o1 d1 but2 bag2 it1 od1 => ?_⟩
      refine ⟨_, rfl, b, rfl, bag2, fun G3 o2 d2 but3 bag3 it2 od2 => ⟨len_line (by show 1 ≤ 100000; decide), fun q1 nq1 => ?_⟩⟩
      refine ⟨o1, .ref q1, rfl, fun G5 l0 s5 nl0 lot0 => ?_⟩
      have bag5 := ((((bag1.but but2).but but3).but ((But.refl b G3).new (o := .lst [o2]) nq1)).but (But.of s5)).at_
      refine ⟨_, rfl, b, rfl, bag5, fun G6 o3 d3 but6 bag6 it3 od3 => ⟨len_line (by show 1 ≤ 100000; decide), fun q2 nq2 => ?_⟩⟩
      refine ⟨_, rfl, b, rfl, bag6.new nq2, fun G8 o4 d4 but8 bag8 it4 od4 => ?_⟩
      refine ⟨.ref q2, o4, rfl, fun G9 l1 s9 nl1 lot1 => ⟨len_line (by show 2 ≤ 100000; decide), fun L nL => ?_⟩⟩
      obtain ⟨M, off, st, al⟩ := stage0 bag1 but2 it1 od1 but3 it2 od2 nq1 s5 nl0 lot0 but6 it3 od3 nq2 but8 it4 od4 s9 nl1 lot1 nL
      exact ⟨L, l0, l1, M, o1, .ref q1, .ref q2, o4, rfl, off, st, al⟩
    · rintro _ G0 ⟨L, l0, l1, M, t1, t2, t3, t4, rfl, off, st0, al0⟩
      refine ⟨fun σ' G => ∃ (v3 : Option V), σ' = ([some (.ref a), some (.ref b), some (.ref L), v3, none, none, none, none, none, none, none, none, none, none, none, none, none, none, none, none] : L2.St) ∧ BagAt G b, ?_, ?_⟩
      · refine ⟨_, rfl, L, rfl, ⟨_, SqL.of st0.at_L⟩, for_list (K := K) (a := L) (xs := [.ref l0, .ref l1]) (fun i σ' G => ∃ (v3 : Option V),
            σ' = ([some (.ref a), some (.ref b), some (.ref L), v3, none, none, none, none, none, none, none, none, none, none, none, none, none, none, none, none] : L2.St) ∧
            Stage K C b c L l0 l1 M t1 t2 t3 t4 (8100 + 16000 * i) G ∧ ∀ p, M p → ∃ o, G p = some o) ⟨none, rfl, st0, al0⟩ (fun i σ' G _ ⟨_, _, st, _⟩ => SqL.of st.at_L) ?_ ?_⟩
        · rintro i x _ G at_i ⟨v3, rfl, st, al⟩
          have pick : ∃ (l : Addr) (one two : V), x = .ref l ∧ (∀ m G', Stage K C b c L l0 l1 M t1 t2 t3 t4 m G' → Lot G' C l one two) ∧ (∀ v, v = one ∨ v = two → v = t1 ∨ v = t2 ∨ v = t3 ∨ v = t4) ∧ i < 2 := by
            match i, at_i with
            | 0, e =>
              cases e
              exact ⟨l0, t1, t2, rfl, fun _ _ z => z.lot0, fun v z => z.elim .inl (fun y => .inr (.inl y)), by decide⟩
            | 1, e =>
              cases e
              exact ⟨l1, t3, t4, rfl, fun _ _ z => z.lot1, fun v z => z.elim (fun y => .inr (.inr (.inl y))) (fun y => .inr (.inr (.inr y))), by decide⟩
            | i + 2, e => cases e
          obtain ⟨l, one, two, rfl, lotOf, among, i2⟩ := pick
          refine ⟨8, rfl, by decide, by decide, fun D nD => ?_⟩
          have offD : ¬ M D := fun m => by
            obtain ⟨o, e⟩ := al D m
            rw [e] at nD
            cases nD
          have sD : Same G (upd G D (.lst [])) := same_new nD
          refine lc_range (lo := 0) (n := 8) (fun k G' => G' D = some (.lst []) ∧ Stage K C b c L l0 l1 M t1 t2 t3 t4 (8100 + 16000 * i + 2000 * k) G' ∧ ∀ p, M p → ∃ o, G' p = some o) ?_ ?_ ?_
          · exact ⟨upd_same, st.up sD, fun p m => by
              obtain ⟨o, e⟩ := al p m
              exact ⟨o, sD _ _ e⟩⟩
          · rintro k G' k8 ⟨at_D, st', al'⟩
            have ei : (0 : Int) + (k : Nat) = (k : Nat) := Int.zero_add _
            rw [ei]
            obtain ⟨ts, r, xx, at_l, at_k, kn, way⟩ := lot_at Z A (lotOf _ _ st') k k8
            refine ⟨rfl, ?_⟩
            have step : ∀ H' v, Post K M v (8100 + 16000 * i + 2000 * k) G' H' → H' D = some (.lst []) ∧ Stage K C b c L l0 l1 M t1 t2 t3 t4 (8100 + 16000 * i + 2000 * (k + 1)) H' ∧ ∀ p, M p → ∃ o, H' p = some o := fun H' v post => by
              refine ⟨?_, (st'.post off post).mono (by omega), fun p m => ?_⟩
              · rcases post with z | ⟨m, _, isM, _, z, _⟩
                · exact z _ _ at_D
                · exact z _ _ (fun y => offD (y ▸ isM)) at_D
              · obtain ⟨o, e⟩ := al' p m
                rcases post with z | ⟨q, _, isM, _, z, _, ⟨ys, y⟩, _⟩
                · exact ⟨o, z _ _ e⟩
                · by_cases ne : p = q
                  · exact ⟨_, by rw [ne]; exact y⟩
                  · exact ⟨o, z _ _ ne e⟩
            rcases way with ⟨fld, v, mem, nof, row, who⟩ | bare
            · obtain ⟨d, th, fit⟩ := st'.th v (among v who)
              exact ⟨_, rfl, _, rfl, l, k, ts, r, xx, rfl, at_l, at_k, k8, kn, .inl ⟨M, fld, v, d, _, mem, nof, row, th, fit, by omega, fun H' post => ⟨true, rfl, not_iteF (step H' v post)⟩⟩⟩
            · exact ⟨_, rfl, _, rfl, l, k, ts, r, xx, rfl, at_l, at_k, k8, kn, .inr ⟨bare, fun H' same => ⟨true, rfl, not_iteF (step H' .non (.inl same))⟩⟩⟩
          · rintro G' ⟨at_D, st', al'⟩
            refine ⟨Nat.zero_le _, fun p np => ?_⟩
            have sp := same_new (o := .lst []) np
            refine ⟨.list [], .list [], .lst (SqL.of (sp _ _ at_D)) .nil, .lst (SqL.of upd_same) .nil, by decide +kernel, by decide +kernel, _, rfl, ?_⟩
            have e : PyData.eqv (.list []) (.list []) = true := by decide +kernel
            rw [e]
            refine not_iteF ⟨_, rfl, (st'.up sp).mono (by omega), fun p m => ?_⟩
            obtain ⟨o, e⟩ := al' p m
            exact ⟨o, sp _ _ e⟩
        · rintro _ G ⟨v3, rfl, st, _⟩
          exact ⟨v3, rfl, st.bag.at_⟩
      · rintro _ G ⟨v3, rfl, bag⟩
        refine ⟨fun σ' G => ∃ g : Int, σ' = ([some (.ref a), some (.ref b), some (.ref L), v3, some (.int g), none, none, none, none, none, none, none, none, none, none, none, none, none, none, none] : L2.St) ∧ BagAt G b ∧ 1 < g ∧ g.natAbs ≤ 10 ^ 12, ?_, ?_⟩
        · refine ⟨10, 11, rfl, rfl, ⟨by decide, by decide, by decide⟩, _, rfl, b, 999, rfl, bag, by decide, by decide, fun G1 t but1 bag1' t0 t1 => ?_⟩
          have g0 : (1 : Int) < 10 ^ 11 + t := by omega
          have g1 : (10 ^ 11 + t : Int).natAbs ≤ 10 ^ 12 := by omega
          exact ⟨_, _, rfl, rfl, 10 ^ 11 + t, rfl, bag1', g0, g1⟩
        rintro _ G1 ⟨g, rfl, bag1', g0, g1⟩
        refine ⟨fun σ' G => ∃ p1 p2 : Addr, σ' = ([some (.ref a), some (.ref b), some (.ref L), v3, some (.int g), some (.ref p1), some (.ref p2), none, none, none, none, none, none, none, none, none, none, none, none, none] : L2.St) ∧ BagAt G b ∧
          G p1 = some (.tup [.int (g + 1), .int g]) ∧ G p2 = some (.tup [.int g, .int (g - 1)]), ?_, ?_⟩
        · refine ⟨_, rfl, _, _, rfl, rfl, _, rfl, len_line (by show 2 ≤ 100000; decide), fun p1 np1 => ?_⟩
          refine ⟨_, rfl, _, rfl, _, _, rfl, rfl, len_line (by show 2 ≤ 100000; decide), fun p2 np2 => ?_⟩
          exact ⟨_, _, rfl, p1, p2, rfl, (bag1'.new np1).new np2, same_new np2 _ _ upd_same, upd_same⟩
        rintro _ G3 ⟨p1, p2, rfl, bag3, at1, at2⟩
        have b1 : (g + 1).natAbs < 2 ^ 100 := low100 (n := 2 * 10 ^ 12) (by omega) (by decide)
        have b2 : g.natAbs < 2 ^ 100 := low100 (n := 10 ^ 12) (by omega) (by decide)
        have b3 : (g - 1).natAbs < 2 ^ 100 := low100 (n := 2 * 10 ^ 12) (by omega) (by decide)
        refine ⟨fun σ' G => ∃ (v4 v5 v6 : Option V), σ' = ([some (.ref a), some (.ref b), some (.ref L), v3, v4, v5, v6, none, none, none, none, none, none, none, none, none, none, none, none, none] : L2.St) ∧ BagAt G b, ?_, ?_⟩
        · refine ⟨_, rfl, _, rfl, g + 1, g, g, g - 1, ⟨p1, p2, rfl, SqT.of at1, SqT.of at2, b1, b2, b2, b3, by omega, by omega⟩, ?_⟩
          refine ⟨_, rfl, _, rfl, g, g - 1, g + 1, g, ⟨p2, p1, rfl, SqT.of at2, SqT.of at1, b2, b3, b1, b2, by omega, by omega⟩, ?_⟩
          refine ⟨_, rfl, _, rfl, g + 1, g, g + 1, g, ⟨p1, p1, rfl, SqT.of at1, SqT.of at1, b1, b2, b1, b2, by omega, by omega⟩, ?_⟩
          refine ⟨len_line (by show 3 ≤ 100000; decide), fun p np => ⟨1, rfl, len_line (by show 3 ≤ 100000; decide), fun q nq => ?_⟩⟩
          have s4 := same_new (o := .lst [.int (-1), .int 1, .int 0]) nq
          have e : ([V.int (sgn ((g + 1) * (g - 1)) (g * g)), .int (sgn (g * g) ((g + 1) * (g - 1))), .int (sgn ((g + 1) * g) ((g + 1) * g))] : List V) = [.int (-1), .int 1, .int 0] := by rw [sgn_near, sgn_far, sgn_same]
          refine ⟨.ref p, .ref q, .list [.int (-1), .int 1, .int 0], rfl, .lst (SqL.of (s4 _ _ (by rw [upd_same]; exact congrArg (fun z => some (HO.lst z)) e))) (.cons (.int _) (.cons (.int _) (.cons (.int _) .nil))),
            .lst (SqL.of upd_same) (.cons (.int _) (.cons (.int _) (.cons (.int _) .nil))),
            Shows.of (by decide +kernel) (by decide +kernel), by decide +kernel, true, rfl, not_iteF ?_⟩
          exact ⟨_, _, _, rfl, (bag3.new np).new nq⟩
        · rintro _ G ⟨v4, v5, v6, rfl, bag4⟩
          clear at1 at2 bag3 b1 b2 b3
          refine ⟨8, rfl, by decide, by decide, for_range (lo := 0) (n := 8) (fun i σ' G => ∃ (v7 v8 v9 v10 v11 v12 v13 v14 v15 v16 v17 v18 : Option V),
            σ' = ([some (.ref a), some (.ref b), some (.ref L), v3, v4, v5, v6, v7, v8, v9, v10, v11, v12, v13, v14, v15, v16, v17, v18, none] : L2.St) ∧ BagAt G b)
            ⟨none, none, none, none, none, none, none, none, none, none, none, none, rfl, bag4⟩ ?_ (fun _ G _ => fin G)⟩
          rintro k _ G k8 ⟨v7, v8, v9, v10, v11, v12, v13, v14, v15, v16, v17, v18, rfl, bagk⟩
          refine ⟨fun σ' G => ∃ (p q : Addr) (A1 B1 C1 D1 : Int), σ' = ([some (.ref a), some (.ref b), some (.ref L), v3, v4, v5, v6, some (.int (0 + (k : Nat))), some (.ref p), some (.ref q), v10, v11, v12, v13, v14, v15, v16, v17, v18, none] : L2.St) ∧ p ≠ b ∧ q ≠ b ∧
            A1.natAbs ≤ 10 ^ 12 ∧ 0 < B1 ∧ B1 ≤ 10 ^ 9 ∧ gz A1 B1 = 1 ∧ C1.natAbs ≤ 10 ^ 12 ∧ 0 < D1 ∧ D1 ≤ 10 ^ 9 ∧ BagAt G b ∧ G p = some (.tup [.int A1, .int B1]) ∧ G q = some (.tup [.int C1, .int D1]), ?_, ?_⟩
          · refine ⟨_, rfl, b, rfl, bagk, fun G1 p i j but1 bag1' np pb at_p hi hj hj2 => ?_⟩
            refine ⟨_, rfl, b, rfl, bag1', fun G2 q k2 l2 but2 bag2 nq qb at_q hk hl hl2 => ?_⟩
            obtain ⟨f1, f2, f3, f4⟩ := red_facts (i := i) (j := j) hj
            obtain ⟨h1, h2, h3, h4⟩ := red_facts (i := k2) (j := l2) hl
            exact ⟨_, _, rfl, p, q, _, _, _, _, rfl, pb, qb, by omega, f2, by omega, f4, by omega, h2, by omega, bag2, but2.1 _ _ pb at_p, at_q⟩
          rintro _ G2 ⟨p, q, A1, B1, C1, D1, rfl, pb, qb, nA, B0, nB, gAB, nC, D0, nD, bag2, at_p, at_q⟩
          have lA : A1.natAbs < 2 ^ 100 := low100 nA (by decide)
          have lB : B1.natAbs < 2 ^ 100 := low100 (n := 10 ^ 9) (by omega) (by decide)
          have lC : C1.natAbs < 2 ^ 100 := low100 nC (by decide)
          have lD : D1.natAbs < 2 ^ 100 := low100 (n := 10 ^ 9) (by omega) (by decide)
          refine ⟨_, rfl, p, _, rfl, SqT.of at_p, rfl, _, _, rfl, _, _, rfl, rfl, ?_⟩
          refine ⟨_, rfl, q, _, rfl, SqT.of at_q, rfl, _, _, rfl, _, _, rfl, rfl, ?_⟩
          refine ⟨fun σ' G => ∃ f : Int, σ' = ([some (.ref a), some (.ref b), some (.ref L), v3, v4, v5, v6, some (.int (0 + (k : Nat))), some (.ref p), some (.ref q), some (.int A1), some (.int B1), some (.int C1), some (.int D1), some (.int f), v15, v16, v17, v18, none] : L2.St) ∧ (f = 1 ∨ f = -1 ∨ f = 6 ∨ f = -35) ∧ BagAt G b ∧ G p = some (.tup [.int A1, .int B1]) ∧ G q = some (.tup [.int C1, .int D1]), ?_, ?_⟩
          · refine ⟨_, rfl, 1, rfl, 35, rfl, len_line (by show 4 ≤ 100000; decide), fun t nt => ?_⟩
            have tb := (But.free (But.refl b G2) bag2 nt).1
            refine ⟨b, t, _, rfl, bag2.new nt, .inl (SqL.of upd_same), tb, by show 0 < 4; decide, by show 4 < 1073741824; decide, fun G3 x mem but3 bag3 => ?_⟩
            have st := same_new (o := .lst [V.int 1, V.int (-1), V.int 6, V.int (-35)]) nt
            obtain ⟨f, rfl, hf⟩ : ∃ f, x = V.int f ∧ (f = 1 ∨ f = -1 ∨ f = 6 ∨ f = -35) := by
              simp only [List.mem_cons, List.not_mem_nil, or_false] at mem
              rcases mem with e | e | e | e
              · exact ⟨_, e, .inl rfl⟩
              · exact ⟨_, e, .inr (.inl rfl)⟩
              · exact ⟨_, e, .inr (.inr (.inl rfl))⟩
              · exact ⟨_, e, .inr (.inr (.inr rfl))⟩
            exact ⟨f, rfl, hf, bag3, but3.1 _ _ pb (same_new nt _ _ at_p), but3.1 _ _ qb (same_new nt _ _ at_q)⟩
          clear at_p at_q bag2
          rintro _ G3 ⟨f, rfl, hf, bag3, at_p, at_q⟩
          have nf : f.natAbs < 2 ^ 100 := by rcases hf with rfl | rfl | rfl | rfl <;> decide
          have mAD := mul_low lA lD
          have mBC := mul_low lB lC
          have mCB := mul_low lC lB
          have mBD := mul_low lB lD
          have mAC := mul_low lA lC
          have mAf := mul_low lA nf
          have mBf := mul_low lB nf
          have BD0 := prod_pos B0 D0
          -- due
          refine ⟨fun σ' G => ∃ pd r1 r2 r3 : Addr, σ' = ([some (.ref a), some (.ref b), some (.ref L), v3, v4, v5, v6, some (.int (0 + (k : Nat))), some (.ref p), some (.ref q), some (.int A1), some (.int B1), some (.int C1), some (.int D1), some (.int f), some (.ref pd), v16, v17, v18, none] : L2.St) ∧ BagAt G b ∧ G p = some (.tup [.int A1, .int B1]) ∧ G q = some (.tup [.int C1, .int D1]) ∧ G pd = some (.lst [.ref p, .ref r1, .ref r2, .ref r3]) ∧
            G r1 = some (.tup [.int (red (A1 * D1 + B1 * C1) (B1 * D1)).1, .int (red (A1 * D1 + B1 * C1) (B1 * D1)).2]) ∧ G r2 = some (.tup [.int (red (A1 * D1 - B1 * C1) (B1 * D1)).1, .int (red (A1 * D1 - B1 * C1) (B1 * D1)).2]) ∧
            G r3 = some (.tup [.int (red (A1 * C1) (B1 * D1)).1, .int (red (A1 * C1) (B1 * D1)).2]), ?_, ?_⟩
          · refine ⟨_, rfl, ?_⟩
            refine ⟨_, rfl, _, rfl, A1, D1, rfl, rfl, mAD.1, _, rfl, _, rfl, B1, C1, rfl, rfl, mBC.1, _, _, rfl, rfl, _, rfl, _, rfl, B1, D1, rfl, rfl, mBD.1, ?_⟩
            refine ⟨_, _, rfl, BD0, (sum_low mAD.2 mBC.2).1, pow_low mBD.2, fun H1 r1 sm1 nr1 at_r1 => ?_⟩
            refine ⟨_, rfl, _, rfl, A1, D1, rfl, rfl, mAD.1, _, rfl, _, rfl, B1, C1, rfl, rfl, mBC.1, _, _, rfl, rfl, _, rfl, _, rfl, B1, D1, rfl, rfl, mBD.1, ?_⟩
            refine ⟨_, _, rfl, BD0, (sum_low mAD.2 mBC.2).2, pow_low mBD.2, fun H2 r2 sm2 nr2 at_r2 => ?_⟩
            refine ⟨_, rfl, _, rfl, A1, C1, rfl, rfl, mAC.1, _, rfl, _, rfl, B1, D1, rfl, rfl, mBD.1, ?_⟩
            refine ⟨_, _, rfl, BD0, pow_low mAC.2, pow_low mBD.2, fun H3 r3 sm3 nr3 at_r3 => ?_⟩
            refine ⟨len_line (by show 4 ≤ 100000; decide), fun pd npd => ?_⟩
            have sx := same_new (o := .lst [.ref p, .ref r1, .ref r2, .ref r3]) npd
            have s4 := ((sm1.trans sm2).trans sm3).trans sx
            exact ⟨pd, r1, r2, r3, rfl, bag3.same s4, s4 _ _ at_p, s4 _ _ at_q, upd_same, sx _ _ (sm3 _ _ (sm2 _ _ at_r1)), sx _ _ (sm3 _ _ at_r2), sx _ _ at_r3⟩
          clear at_p at_q bag3
          rintro _ G4 ⟨pd, r1, r2, r3, rfl, bag4, at_p, at_q, at_pd, at_r1, at_r2, at_r3⟩
          have Bf0 : B1 * f ≠ 0 := by rcases hf with rfl | rfl | rfl | rfl <;> omega
          have eC : C1 * B1 = B1 * C1 := Int.mul_comm _ _
          -- found
          refine ⟨fun σ' G => ∃ pf s0 s1 s2 s3 : Addr, σ' = ([some (.ref a), some (.ref b), some (.ref L), v3, v4, v5, v6, some (.int (0 + (k : Nat))), some (.ref p), some (.ref q), some (.int A1), some (.int B1), some (.int C1), some (.int D1), some (.int f), some (.ref pd), some (.ref pf), v17, v18, none] : L2.St) ∧ BagAt G b ∧ G p = some (.tup [.int A1, .int B1]) ∧ G q = some (.tup [.int C1, .int D1]) ∧ G pd = some (.lst [.ref p, .ref r1, .ref r2, .ref r3]) ∧
            G r1 = some (.tup [.int (red (A1 * D1 + B1 * C1) (B1 * D1)).1, .int (red (A1 * D1 + B1 * C1) (B1 * D1)).2]) ∧ G r2 = some (.tup [.int (red (A1 * D1 - B1 * C1) (B1 * D1)).1, .int (red (A1 * D1 - B1 * C1) (B1 * D1)).2]) ∧ G r3 = some (.tup [.int (red (A1 * C1) (B1 * D1)).1, .int (red (A1 * C1) (B1 * D1)).2]) ∧ G pf = some (.lst [.ref s0, .ref s1, .ref s2, .ref s3]) ∧
            G s0 = some (.tup [.int A1, .int B1]) ∧ G s1 = some (.tup [.int (red (A1 * D1 + B1 * C1) (B1 * D1)).1, .int (red (A1 * D1 + B1 * C1) (B1 * D1)).2]) ∧ G s2 = some (.tup [.int (red (A1 * D1 - B1 * C1) (B1 * D1)).1, .int (red (A1 * D1 - B1 * C1) (B1 * D1)).2]) ∧ G s3 = some (.tup [.int (red (A1 * C1) (B1 * D1)).1, .int (red (A1 * C1) (B1 * D1)).2]), ?_, ?_⟩
          · refine ⟨_, rfl, _, rfl, A1, f, rfl, rfl, mAf.1, _, rfl, _, rfl, B1, f, rfl, rfl, mBf.1, ?_⟩
            refine ⟨_, _, rfl, Bf0, pow_low mAf.2, pow_low mBf.2, fun H1 s0 sm1 ns0 at_s0 => ?_⟩
            rw [red_scale gAB B0 hf] at at_s0
            refine ⟨_, rfl, _, rfl, A1, B1, C1, D1, ⟨p, q, rfl, SqT.of (sm1 _ _ at_p), SqT.of (sm1 _ _ at_q), lA, lB, lC, lD, B0, D0⟩, fun H2 s1 sm2 ns1 at_s1 => ?_⟩
            have sm12 := sm1.trans sm2
            refine ⟨_, rfl, _, rfl, A1, B1, C1, D1, ⟨p, q, rfl, SqT.of (sm12 _ _ at_p), SqT.of (sm12 _ _ at_q), lA, lB, lC, lD, B0, D0⟩, fun H3 s2 sm3 ns2 at_s2 => ?_⟩
            have sm123 := sm12.trans sm3
            refine ⟨_, rfl, _, rfl, A1, B1, C1, D1, ⟨p, q, rfl, SqT.of (sm123 _ _ at_p), SqT.of (sm123 _ _ at_q), lA, lB, lC, lD, B0, D0⟩, fun H4 s3 sm4 ns3 at_s3 => ?_⟩
            rw [eC] at at_s1 at_s2
            refine ⟨len_line (by show 4 ≤ 100000; decide), fun pf npf => ?_⟩
            have sx := same_new (o := .lst [.ref s0, .ref s1, .ref s2, .ref s3]) npf
            have s4 := (sm123.trans sm4).trans sx
            exact ⟨pf, s0, s1, s2, s3, rfl, bag4.same s4, s4 _ _ at_p, s4 _ _ at_q, s4 _ _ at_pd, s4 _ _ at_r1, s4 _ _ at_r2, s4 _ _ at_r3, upd_same,
              sx _ _ (sm4 _ _ (sm3 _ _ (sm2 _ _ at_s0))), sx _ _ (sm4 _ _ (sm3 _ _ at_s1)), sx _ _ (sm4 _ _ at_s2), sx _ _ at_s3⟩
          clear at_p at_q bag4 at_pd at_r1 at_r2 at_r3
          rintro _ G5 ⟨pf, s0, s1, s2, s3, rfl, bag5, at_p, at_q, at_pd, at_r1, at_r2, at_r3, at_pf, at_s0, at_s1, at_s2, at_s3⟩
          have BDp : 0 < B1 * D1 := Int.mul_pos B0 D0
          have l1 : low4 (red (A1 * D1 + B1 * C1) (B1 * D1)) := red_low BDp (sum_low mAD.2 mBC.2).1 (pow_low mBD.2)
          have l2 : low4 (red (A1 * D1 - B1 * C1) (B1 * D1)) := red_low BDp (sum_low mAD.2 mBC.2).2 (pow_low mBD.2)
          have l3 : low4 (red (A1 * C1) (B1 * D1)) := red_low BDp (pow_low mAC.2) (pow_low mBD.2)
          have l0 : low4 (A1, B1) := ⟨by show A1.natAbs < 2 ^ 400; omega, by show B1.natAbs < 2 ^ 400; omega⟩
          refine ⟨fun σ' G => σ' = ([some (.ref a), some (.ref b), some (.ref L), v3, v4, v5, v6, some (.int (0 + (k : Nat))), some (.ref p), some (.ref q), some (.int A1), some (.int B1), some (.int C1), some (.int D1), some (.int f), some (.ref pd), some (.ref pf), v17, v18, none] : L2.St) ∧ BagAt G b ∧ G p = some (.tup [.int A1, .int B1]) ∧ G q = some (.tup [.int C1, .int D1]), ?_, ?_⟩
          · refine ⟨_, rfl, _, rfl, .ref pf, .ref pd, .list [tupD (A1, B1), tupD (red (A1 * D1 + B1 * C1) (B1 * D1)), tupD (red (A1 * D1 - B1 * C1) (B1 * D1)), tupD (red (A1 * C1) (B1 * D1))], rfl,
              .lst (SqL.of at_pf) (.cons (dat_tup (x := (A1, B1)) at_s0) (.cons (dat_tup at_s1) (.cons (dat_tup at_s2) (.cons (dat_tup at_s3) .nil)))),
              .lst (SqL.of at_pd) (.cons (dat_tup (x := (A1, B1)) at_p) (.cons (dat_tup at_r1) (.cons (dat_tup at_r2) (.cons (dat_tup at_r3) .nil)))),
              four_shows l0 l1 l2 l3, four_deep _ _ _ _, true, rfl, not_iteF ?_⟩
            exact ⟨rfl, bag5, at_p, at_q⟩
          clear at_p at_q bag5 at_pd at_r1 at_r2 at_r3 at_pf at_s0 at_s1 at_s2 at_s3
          rintro _ G6 ⟨rfl, bag6, at_p, at_q⟩
          -- order
          refine ⟨fun σ' G => σ' = ([some (.ref a), some (.ref b), some (.ref L), v3, v4, v5, v6, some (.int (0 + (k : Nat))), some (.ref p), some (.ref q), some (.int A1), some (.int B1), some (.int C1), some (.int D1), some (.int f), some (.ref pd), some (.ref pf), some (.int (sgn (A1 * D1) (C1 * B1))), v18, none] : L2.St) ∧ BagAt G b ∧ G p = some (.tup [.int A1, .int B1]) ∧ G q = some (.tup [.int C1, .int D1]), ?_, ?_⟩
          · refine ⟨_, rfl, _, rfl, A1, D1, rfl, rfl, mAD.1, _, rfl, _, rfl, B1, C1, rfl, rfl, mBC.1, _, _, rfl, rfl, .inr ⟨_, rfl, ?_⟩⟩
            refine ⟨_, rfl, _, rfl, A1, D1, rfl, rfl, mAD.1, _, rfl, _, rfl, B1, C1, rfl, rfl, mBC.1, _, _, rfl, rfl, .inr ⟨_, rfl, _, _, rfl, rfl, ?_⟩⟩
            refine ⟨?_, bag6, at_p, at_q⟩
            rw [eC, ← sgn_order]
            rfl
          rintro _ G7 ⟨rfl, bag7, at_p, at_q⟩
          -- text
          refine ⟨fun σ' G => σ' = ([some (.ref a), some (.ref b), some (.ref L), v3, v4, v5, v6, some (.int (0 + (k : Nat))), some (.ref p), some (.ref q), some (.int A1), some (.int B1), some (.int C1), some (.int D1), some (.int f), some (.ref pd), some (.ref pf), some (.int (sgn (A1 * D1) (C1 * B1))), some (.str (ftext A1 B1)), none] : L2.St) ∧ BagAt G b ∧ G p = some (.tup [.int A1, .int B1]) ∧ G q = some (.tup [.int C1, .int D1]), ?_, ?_⟩
          · refine ⟨_, rfl, A1, rfl, log_text lA, _, rfl, rfl, _, rfl, ?_⟩
            by_cases h : B1 = 1
            · have e : (!decide (V.int B1 = V.int 1)) = false := by rw [h]; decide
              rw [e]
              have la := str_low lA
              refine iteF ⟨_, _, rfl, rfl, ?_, ?_, bag7, at_p, at_q⟩
              · have e0 : (Str.ofString "").length = 0 := by decide +kernel
                refine len_line ?_
                show (Str.ofString (toString A1)).length + (Str.ofString "").length ≤ 100000
                omega
              · rw [← text_one h]
                rfl
            · have e : (!decide (V.int B1 = V.int 1)) = true := by
                have : ¬ V.int B1 = V.int 1 := fun z => h (by injection z)
                rw [decide_eq_false this]
                rfl
              rw [e]
              have la := str_low lA
              have lb := str_low lB
              have e0 : (Str.ofString "/").length = 1 := by decide +kernel
              refine iteT ⟨_, rfl, B1, rfl, log_text lB, _, _, rfl, rfl, ?_, _, _, rfl, rfl, ?_, ?_, bag7, at_p, at_q⟩
              · refine len_line ?_
                show (Str.ofString "/").length + (Str.ofString (toString B1)).length ≤ 100000
                omega
              · refine len_line ?_
                show (Str.ofString (toString A1)).length + (Str.ofString "/" ++ Str.ofString (toString B1)).length ≤ 100000
                rw [strLen_append]
                omega
              · rw [← text_two h]
                rfl
          rintro _ G8 ⟨rfl, bag8, at_p, at_q⟩
          refine ⟨_, rfl, _, rfl, A1, B1, C1, D1, ⟨p, q, rfl, SqT.of at_p, SqT.of at_q, lA, lB, lC, lD, B0, D0⟩, _, rfl, p, A1, B1, rfl, SqT.of at_p, lA, lB, len_line (by show 2 ≤ 100000; decide), fun x nx => ?_⟩
          refine ⟨_, rfl, _, rfl, len_line (by show 2 ≤ 100000; decide), fun y ny => ?_⟩
          have sy := same_new (o := .lst [.int (sgn (A1 * D1) (C1 * B1)), .str (ftext A1 B1)]) ny
          refine ⟨.ref x, .ref y, .list [.int (sgn (A1 * D1) (C1 * B1)), .str (ftext A1 B1)], rfl, .lst (SqL.of (sy _ _ upd_same)) (.cons (.int _) (.cons (.str _) .nil)), .lst (SqL.of upd_same) (.cons (.int _) (.cons (.str _) .nil)),
            two_shows (sgn_small _ _) (text_nice _ _) (text_low lA lB), two_deep _ _, true, rfl, not_iteF ?_⟩
          exact ⟨_, _, _, _, _, _, _, _, _, _, _, _, rfl, (bag8.new nx).new ny⟩
end
end K28

namespace K28
open PySem PySem.Spec PyProof.Rows L2 Vd Evl
theorem kit_own {K : PySem.W.Frag} {x C : Addr} {b : Bool} (own : PySem.W.subIn K (.ref C) (.ref C) = some true) (cl : PySem.W.isClsIn K C = true) (ty : PySem.W.typeIn K (.ref C) = some (.type "type")) (h : PySem.W.subIn K (.ref x) (.ref C) = some b) : PySem.W.kitOne K (.ref x) (.ref C) = some b := by
  unfold PySem.W.kitOne
  split
  · rename_i same
    have e : Value.ref x = Value.ref C := by simpa using same
    cases e
    rw [own] at h
    exact h
  · have c1 : (PySem.W.clsIn K C).isSome = true := cl
    show (if ((PySem.W.clsIn K C).isSome && PySem.W.typeIn K (.ref C) == some (.type "type")) = true then PySem.W.subIn K (.ref x) (.ref C) else none) = some b
    rw [c1, ty, if_pos (by decide), h]
theorem kit_typ {K : PySem.W.Frag} {t : Value} {T : String} {b : Bool} (ne : (t == Value.type T) = false) (m : PySem.W.kitMeta T = true) (h : PySem.W.subIn K t (.type T) = some b) : PySem.W.kitOne K t (.type T) = some b := by
  unfold PySem.W.kitOne
  rw [if_neg (by rw [ne]; decide)]
  show (if PySem.W.kitMeta T = true then PySem.W.subIn K t (.type T) else none) = some b
  rw [if_pos m, h]

theorem all_mk {P : Program} {w : World} {K : PySem.W.Frag} {h : Heap} {mg : Str → Option Value} {fa : Addr} (X : K.In h) (G : h.Ns mainGlobals mg) (hfa : mg "law" = some (.ref fa))
    {fBag : Addr} {odBag anBag : Option Addr} {slBag : Array (Option Value)} {ocBag kVBag dcBag pmBag cdBag ctBag : Value}
    {fTake : Addr} {odTake anTake : Option Addr} {slTake : Array (Option Value)} {ocTake kVTake dcTake pmTake cdTake ctTake : Value}
    {fSome_ : Addr} {odSome_ anSome_ : Option Addr} {slSome_ : Array (Option Value)} {ocSome_ kVSome_ dcSome_ pmSome_ cdSome_ ctSome_ : Value}
    {fAlike : Addr} {odAlike anAlike : Option Addr} {slAlike : Array (Option Value)} {ocAlike kVAlike dcAlike pmAlike cdAlike ctAlike : Value}
    {fOdd : Addr} {odOdd anOdd : Option Addr} {slOdd : Array (Option Value)} {ocOdd kVOdd dcOdd pmOdd cdOdd ctOdd : Value}
    {fLCom : Addr} {odLCom anLCom : Option Addr} {slLCom : Array (Option Value)} {ocLCom kVLCom dcLCom pmLCom cdLCom ctLCom : Value}
    {fLRed : Addr} {odLRed anLRed : Option Addr} {slLRed : Array (Option Value)} {ocLRed kVLRed dcLRed pmLRed cdLRed ctLRed : Value}
    {fInt_ : Addr} {odInt_ anInt_ : Option Addr} {slInt_ : Array (Option Value)} {ocInt_ kVInt_ dcInt_ pmInt_ cdInt_ ctInt_ : Value}
    {fFrac : Addr} {odFrac anFrac : Option Addr} {slFrac : Array (Option Value)} {ocFrac kVFrac dcFrac pmFrac cdFrac ctFrac : Value}
    {fErr : Addr} {odErr anErr : Option Addr} {slErr : Array (Option Value)} {ocErr kVErr dcErr pmErr cdErr ctErr : Value}
    {fFld : Addr} {odFld anFld : Option Addr} {slFld : Array (Option Value)} {ocFld kVFld dcFld pmFld cdFld ctFld : Value}
    {fKin : Addr} {odKin anKin : Option Addr} {slKin : Array (Option Value)} {ocKin kVKin dcKin pmKin cdKin ctKin : Value}
    {fRight : Addr} {odRight anRight : Option Addr} {slRight : Array (Option Value)} {ocRight kVRight dcRight pmRight cdRight ctRight : Value}
    {fRed : Addr} {odRed anRed : Option Addr} {slRed : Array (Option Value)} {ocRed kVRed dcRed pmRed cdRed ctRed : Value}
    {fAdd : Addr} {odAdd anAdd : Option Addr} {slAdd : Array (Option Value)} {ocAdd kVAdd dcAdd pmAdd cdAdd ctAdd : Value}
    {fLess : Addr} {odLess anLess : Option Addr} {slLess : Array (Option Value)} {ocLess kVLess dcLess pmLess cdLess ctLess : Value}
    {fTimes : Addr} {odTimes anTimes : Option Addr} {slTimes : Array (Option Value)} {ocTimes kVTimes dcTimes pmTimes cdTimes ctTimes : Value}
    {fComp : Addr} {odComp anComp : Option Addr} {slComp : Array (Option Value)} {ocComp kVComp dcComp pmComp cdComp ctComp : Value}
    {fText : Addr} {odText anText : Option Addr} {slText : Array (Option Value)} {ocText kVText dcText pmText cdText ctText : Value}
    {fLaw : Addr} {odLaw anLaw : Option Addr} {slLaw : Array (Option Value)} {ocLaw kVLaw dcLaw pmLaw cdLaw ctLaw : Value}
    {cH : Addr}
    {Ca Na : Addr} {nma qa : Str} {bsa suba : List Value} {sna : List Str} {aba : Bool} {cola : Option Bool} {dda : Option Addr} {m0a m1a m2a m3a m5a : Option Value}
    {yya : Addr}
    {Cb Nb : Addr} {nmb qb : Str} {bsb subb : List Value} {snb : List Str} {abb : Bool} {colb : Option Bool} {ddb : Option Addr} {m0b m1b m2b m3b m5b : Option Value}
    {yyb : Addr}
    {Cc Nc : Addr} {nmc qc : Str} {bsc subc : List Value} {snc : List Str} {abc : Bool} {colc : Option Bool} {ddc : Option Addr} {m0c m1c m2c m3c m5c : Option Value}
    {yyc : Addr}
    {Cd Nd : Addr} {nmd qd : Str} {bsd subd : List Value} {snd : List Str} {abd : Bool} {cold : Option Bool} {ddd : Option Addr} {m0d m1d m2d m3d m5d : Option Value}
    {yyd : Addr}
    {Ce Ne : Addr} {nme qe : Str} {bse sube : List Value} {sne : List Str} {abe : Bool} {cole : Option Bool} {dde : Option Addr} {m0e m1e m2e m3e m5e : Option Value}
    {yye : Addr}
    {Cf Nf : Addr} {nmf qf : Str} {bsf subf : List Value} {snf : List Str} {abf : Bool} {colf : Option Bool} {ddf : Option Addr} {m0f m1f m2f m3f m5f : Option Value}
    {yyf : Addr}
    {Cg Ng : Addr} {nmg qg : Str} {bsg subg : List Value} {sng : List Str} {abg : Bool} {colg : Option Bool} {ddg : Option Addr} {m0g m1g m2g m3g m5g : Option Value}
    {yyg : Addr}
    {Ch Nh : Addr} {nmh qh : Str} {bsh subh : List Value} {snh : List Str} {abh : Bool} {colh : Option Bool} {ddh : Option Addr} {m0h m1h m2h m3h m5h : Option Value}
    {yyh : Addr}
    {odia ania : Option Addr} {slia : Array (Option Value)} {ocia kVia dcia pmia cdia ctia : Value}
    {odib anib : Option Addr} {slib : Array (Option Value)} {ocib kVib dcib pmib cdib ctib : Value}
    {odic anic : Option Addr} {slic : Array (Option Value)} {ocic kVic dcic pmic cdic ctic : Value}
    {odid anid : Option Addr} {slid : Array (Option Value)} {ocid kVid dcid pmid cdid ctid : Value}
    {odie anie : Option Addr} {slie : Array (Option Value)} {ocie kVie dcie pmie cdie ctie : Value}
    {odif anif : Option Addr} {slif : Array (Option Value)} {ocif kVif dcif pmif cdif ctif : Value}
    {odig anig ccdg cldg : Option Addr} {slig ccsg cslg : Array (Option Value)} {ocig kVig dcig pmig ctig cclg cl2g : Value} {cdag ccg : Addr} {vsg : Array Value}
    {fileg : Str} {tfg : Tok}
    {odih anih ccdh cldh : Option Addr} {slih ccsh cslh : Array (Option Value)} {ocih kVih dcih pmih ctih cclh cl2h : Value} {cdah cch : Addr} {vsh : Array Value}
    {fileh : Str} {tfh : Tok}
    (aBag : PySem.W.nsIn K mainGlobals "_law_bag" = some (some (.ref fBag)))
    (lBag : K.lookup fBag = some ⟨ocBag, odBag, .func (PySem.W.fnOf "_law_bag" "_law_bag" (defArgs (topS 19)) (defBody (topS 19)) (defScope (topS 19)) .none kVBag dcBag pmBag anBag cdBag ctBag), slBag⟩)
    (cBag : PySem.W.codeIn K cdBag "_law_bag" = true)
    (kBag : PySem.W.keepIn K (.ref fBag) = true)
    (aTake : PySem.W.nsIn K mainGlobals "_law_take" = some (some (.ref fTake)))
    (lTake : K.lookup fTake = some ⟨ocTake, odTake, .func (PySem.W.fnOf "_law_take" "_law_take" (defArgs (topS 20)) (defBody (topS 20)) (defScope (topS 20)) .none kVTake dcTake pmTake anTake cdTake ctTake), slTake⟩)
    (cTake : PySem.W.codeIn K cdTake "_law_take" = true)
    (kTake : PySem.W.keepIn K (.ref fTake) = true)
    (aSome_ : PySem.W.nsIn K mainGlobals "_law_some" = some (some (.ref fSome_)))
    (lSome_ : K.lookup fSome_ = some ⟨ocSome_, odSome_, .func (PySem.W.fnOf "_law_some" "_law_some" (defArgs (topS 21)) (defBody (topS 21)) (defScope (topS 21)) .none kVSome_ dcSome_ pmSome_ anSome_ cdSome_ ctSome_), slSome_⟩)
    (cSome_ : PySem.W.codeIn K cdSome_ "_law_some" = true)
    (kSome_ : PySem.W.keepIn K (.ref fSome_) = true)
    (aAlike : PySem.W.nsIn K mainGlobals "_law_alike" = some (some (.ref fAlike)))
    (lAlike : K.lookup fAlike = some ⟨ocAlike, odAlike, .func (PySem.W.fnOf "_law_alike" "_law_alike" (defArgs (topS 22)) (defBody (topS 22)) (defScope (topS 22)) .none kVAlike dcAlike pmAlike anAlike cdAlike ctAlike), slAlike⟩)
    (cAlike : PySem.W.codeIn K cdAlike "_law_alike" = true)
    (kAlike : PySem.W.keepIn K (.ref fAlike) = true)
    (aOdd : PySem.W.nsIn K mainGlobals "_law_odd" = some (some (.ref fOdd)))
    (lOdd : K.lookup fOdd = some ⟨ocOdd, odOdd, .func (PySem.W.fnOf "_law_odd" "_law_odd" (defArgs (topS 23)) (defBody (topS 23)) (defScope (topS 23)) .none kVOdd dcOdd pmOdd anOdd cdOdd ctOdd), slOdd⟩)
    (cOdd : PySem.W.codeIn K cdOdd "_law_odd" = true)
    (kOdd : PySem.W.keepIn K (.ref fOdd) = true)
    (aLCom : PySem.W.nsIn K mainGlobals "_law_common" = some (some (.ref fLCom)))
    (lLCom : K.lookup fLCom = some ⟨ocLCom, odLCom, .func (PySem.W.fnOf "_law_common" "_law_common" (defArgs (topS 24)) (defBody (topS 24)) (defScope (topS 24)) .none kVLCom dcLCom pmLCom anLCom cdLCom ctLCom), slLCom⟩)
    (cLCom : PySem.W.codeIn K cdLCom "_law_common" = true)
    (kLCom : PySem.W.keepIn K (.ref fLCom) = true)
    (aLRed : PySem.W.nsIn K mainGlobals "_law_reduced" = some (some (.ref fLRed)))
    (lLRed : K.lookup fLRed = some ⟨ocLRed, odLRed, .func (PySem.W.fnOf "_law_reduced" "_law_reduced" (defArgs (topS 25)) (defBody (topS 25)) (defScope (topS 25)) .none kVLRed dcLRed pmLRed anLRed cdLRed ctLRed), slLRed⟩)
    (cLRed : PySem.W.codeIn K cdLRed "_law_reduced" = true)
    (kLRed : PySem.W.keepIn K (.ref fLRed) = true)
    (aInt_ : PySem.W.nsIn K mainGlobals "_law_integer" = some (some (.ref fInt_)))
    (lInt_ : K.lookup fInt_ = some ⟨ocInt_, odInt_, .func (PySem.W.fnOf "_law_integer" "_law_integer" (defArgs (topS 26)) (defBody (topS 26)) (defScope (topS 26)) .none kVInt_ dcInt_ pmInt_ anInt_ cdInt_ ctInt_), slInt_⟩)
    (cInt_ : PySem.W.codeIn K cdInt_ "_law_integer" = true)
    (kInt_ : PySem.W.keepIn K (.ref fInt_) = true)
    (aFrac : PySem.W.nsIn K mainGlobals "_law_fraction" = some (some (.ref fFrac)))
    (lFrac : K.lookup fFrac = some ⟨ocFrac, odFrac, .func (PySem.W.fnOf "_law_fraction" "_law_fraction" (defArgs (topS 27)) (defBody (topS 27)) (defScope (topS 27)) .none kVFrac dcFrac pmFrac anFrac cdFrac ctFrac), slFrac⟩)
    (cFrac : PySem.W.codeIn K cdFrac "_law_fraction" = true)
    (kFrac : PySem.W.keepIn K (.ref fFrac) = true)
    (aErr : PySem.W.nsIn K mainGlobals "_law_errors" = some (some (.ref fErr)))
    (lErr : K.lookup fErr = some ⟨ocErr, odErr, .func (PySem.W.fnOf "_law_errors" "_law_errors" (defArgs (topS 28)) (defBody (topS 28)) (defScope (topS 28)) .none kVErr dcErr pmErr anErr cdErr ctErr), slErr⟩)
    (cErr : PySem.W.codeIn K cdErr "_law_errors" = true)
    (kErr : PySem.W.keepIn K (.ref fErr) = true)
    (aFld : PySem.W.nsIn K mainGlobals "_law_field" = some (some (.ref fFld)))
    (lFld : K.lookup fFld = some ⟨ocFld, odFld, .func (PySem.W.fnOf "_law_field" "_law_field" (defArgs (topS 29)) (defBody (topS 29)) (defScope (topS 29)) .none kVFld dcFld pmFld anFld cdFld ctFld), slFld⟩)
    (cFld : PySem.W.codeIn K cdFld "_law_field" = true)
    (kFld : PySem.W.keepIn K (.ref fFld) = true)
    (aKin : PySem.W.nsIn K mainGlobals "_law_kinds" = some (some (.ref fKin)))
    (lKin : K.lookup fKin = some ⟨ocKin, odKin, .func (PySem.W.fnOf "_law_kinds" "_law_kinds" (defArgs (topS 30)) (defBody (topS 30)) (defScope (topS 30)) .none kVKin dcKin pmKin anKin cdKin ctKin), slKin⟩)
    (cKin : PySem.W.codeIn K cdKin "_law_kinds" = true)
    (kKin : PySem.W.keepIn K (.ref fKin) = true)
    (aRight : PySem.W.nsIn K mainGlobals "_law_is_error_right" = some (some (.ref fRight)))
    (lRight : K.lookup fRight = some ⟨ocRight, odRight, .func (PySem.W.fnOf "_law_is_error_right" "_law_is_error_right" (defArgs (topS 31)) (defBody (topS 31)) (defScope (topS 31)) .none kVRight dcRight pmRight anRight cdRight ctRight), slRight⟩)
    (cRight : PySem.W.codeIn K cdRight "_law_is_error_right" = true)
    (kRight : PySem.W.keepIn K (.ref fRight) = true)
    (aRed : PySem.W.nsIn K mainGlobals "reduced" = some (some (.ref fRed)))
    (lRed : K.lookup fRed = some ⟨ocRed, odRed, .func (PySem.W.fnOf "reduced" "reduced" (defArgs (topS 2)) (defBody (topS 2)) (defScope (topS 2)) .none kVRed dcRed pmRed anRed cdRed ctRed), slRed⟩)
    (cRed : PySem.W.codeIn K cdRed "reduced" = true)
    (kRed : PySem.W.keepIn K (.ref fRed) = true)
    (aAdd : PySem.W.nsIn K mainGlobals "added" = some (some (.ref fAdd)))
    (lAdd : K.lookup fAdd = some ⟨ocAdd, odAdd, .func (PySem.W.fnOf "added" "added" (defArgs (topS 3)) (defBody (topS 3)) (defScope (topS 3)) .none kVAdd dcAdd pmAdd anAdd cdAdd ctAdd), slAdd⟩)
    (cAdd : PySem.W.codeIn K cdAdd "added" = true)
    (kAdd : PySem.W.keepIn K (.ref fAdd) = true)
    (aLess : PySem.W.nsIn K mainGlobals "lessened" = some (some (.ref fLess)))
    (lLess : K.lookup fLess = some ⟨ocLess, odLess, .func (PySem.W.fnOf "lessened" "lessened" (defArgs (topS 4)) (defBody (topS 4)) (defScope (topS 4)) .none kVLess dcLess pmLess anLess cdLess ctLess), slLess⟩)
    (cLess : PySem.W.codeIn K cdLess "lessened" = true)
    (kLess : PySem.W.keepIn K (.ref fLess) = true)
    (aTimes : PySem.W.nsIn K mainGlobals "times" = some (some (.ref fTimes)))
    (lTimes : K.lookup fTimes = some ⟨ocTimes, odTimes, .func (PySem.W.fnOf "times" "times" (defArgs (topS 5)) (defBody (topS 5)) (defScope (topS 5)) .none kVTimes dcTimes pmTimes anTimes cdTimes ctTimes), slTimes⟩)
    (cTimes : PySem.W.codeIn K cdTimes "times" = true)
    (kTimes : PySem.W.keepIn K (.ref fTimes) = true)
    (aComp : PySem.W.nsIn K mainGlobals "compared" = some (some (.ref fComp)))
    (lComp : K.lookup fComp = some ⟨ocComp, odComp, .func (PySem.W.fnOf "compared" "compared" (defArgs (topS 6)) (defBody (topS 6)) (defScope (topS 6)) .none kVComp dcComp pmComp anComp cdComp ctComp), slComp⟩)
    (cComp : PySem.W.codeIn K cdComp "compared" = true)
    (kComp : PySem.W.keepIn K (.ref fComp) = true)
    (aText : PySem.W.nsIn K mainGlobals "fraction_text" = some (some (.ref fText)))
    (lText : K.lookup fText = some ⟨ocText, odText, .func (PySem.W.fnOf "fraction_text" "fraction_text" (defArgs (topS 7)) (defBody (topS 7)) (defScope (topS 7)) .none kVText dcText pmText anText cdText ctText), slText⟩)
    (cText : PySem.W.codeIn K cdText "fraction_text" = true)
    (kText : PySem.W.keepIn K (.ref fText) = true)
    (aLaw : PySem.W.nsIn K mainGlobals "law" = some (some (.ref fLaw)))
    (lLaw : K.lookup fLaw = some ⟨ocLaw, odLaw, .func (PySem.W.fnOf "law" "law" (defArgs (topS 32)) (defBody (topS 32)) (defScope (topS 32)) .none kVLaw dcLaw pmLaw anLaw cdLaw ctLaw), slLaw⟩)
    (cLaw : PySem.W.codeIn K cdLaw "law" = true)
    (kLaw : PySem.W.keepIn K (.ref fLaw) = true)
    (aH : PySem.W.nsIn K mainGlobals "HallError" = some (some (.ref cH)))
    (clH : PySem.W.isClsIn K cH = true)
    (tyH : PySem.W.typeIn K (.ref cH) = some (.type "type"))
    (owH : PySem.W.subIn K (.ref cH) (.ref cH) = some true)
    (sp0 : PySem.W.specialIn K (.builtin "object.__class__") "__get__" = some (some (.builtin "getset_descriptor.__get__")))
    (tk0 : PySem.W.takesIn K (.builtin "object.__class__") = some true)
    (aa : PySem.W.nsIn K mainGlobals "Wrong" = some (some (.ref Ca)))
    (xa : K.lookup Ca = some (excClassObj nma qa Ca Na bsa [.ref cH, .type "ValueError", .type "Exception", .type "BaseException", .type "object"] true sna suba aba cola dda m0a m1a m2a m3a m5a "ValueError.__new__"))
    (saa : PySem.W.findIn K (.ref Ca) "__setattr__" = some (some (.builtin "object.__setattr__")))
    (bea : PySem.W.subIn K (.ref Ca) (.type "BaseException") = some true)
    (tya : PySem.W.typeIn K (.ref Ca) = some (.type "type"))
    (kpa : PySem.W.keepIn K (.ref Ca) = true)
    (cla : PySem.W.isClsIn K Ca = true)
    (gaa : PySem.W.findIn K (.ref Ca) "__getattribute__" = some (some (.builtin "BaseException.__getattribute__")))
    (gta : PySem.W.findIn K (.ref Ca) "__getattr__" = some none)
    (caa : PySem.W.findIn K (.ref Ca) "__class__" = some (some (.builtin "object.__class__")))
    (moa : PySem.W.mroIn K Ca (.type "object") = some true)
    (hda : PySem.W.hasDictIn K Ca = true)
    (vea : PySem.W.subIn K (.ref Ca) (.type "ValueError") = some true)
    (hea : PySem.W.subIn K (.ref Ca) (.ref cH) = some true)
    (ina : PySem.W.findIn K (.ref Ca) "__init__" = some (some (.ref yya)))
    (isa : PySem.W.typeIn K (.ref yya) = some (.type "function"))
    (ab : PySem.W.nsIn K mainGlobals "NoText" = some (some (.ref Cb)))
    (xb : K.lookup Cb = some (excClassObj nmb qb Cb Nb bsb [.ref cH, .type "ValueError", .type "Exception", .type "BaseException", .type "object"] true snb subb abb colb ddb m0b m1b m2b m3b m5b "ValueError.__new__"))
    (sab : PySem.W.findIn K (.ref Cb) "__setattr__" = some (some (.builtin "object.__setattr__")))
    (beb : PySem.W.subIn K (.ref Cb) (.type "BaseException") = some true)
    (tyb : PySem.W.typeIn K (.ref Cb) = some (.type "type"))
    (kpb : PySem.W.keepIn K (.ref Cb) = true)
    (clb : PySem.W.isClsIn K Cb = true)
    (gab : PySem.W.findIn K (.ref Cb) "__getattribute__" = some (some (.builtin "BaseException.__getattribute__")))
    (gtb : PySem.W.findIn K (.ref Cb) "__getattr__" = some none)
    (cab : PySem.W.findIn K (.ref Cb) "__class__" = some (some (.builtin "object.__class__")))
    (mob : PySem.W.mroIn K Cb (.type "object") = some true)
    (hdb : PySem.W.hasDictIn K Cb = true)
    (veb : PySem.W.subIn K (.ref Cb) (.type "ValueError") = some true)
    (heb : PySem.W.subIn K (.ref Cb) (.ref cH) = some true)
    (inb : PySem.W.findIn K (.ref Cb) "__init__" = some (some (.ref yyb)))
    (isb : PySem.W.typeIn K (.ref yyb) = some (.type "function"))
    (ac : PySem.W.nsIn K mainGlobals "Dead" = some (some (.ref Cc)))
    (xc : K.lookup Cc = some (excClassObj nmc qc Cc Nc bsc [.ref cH, .type "ValueError", .type "Exception", .type "BaseException", .type "object"] true snc subc abc colc ddc m0c m1c m2c m3c m5c "ValueError.__new__"))
    (sac : PySem.W.findIn K (.ref Cc) "__setattr__" = some (some (.builtin "object.__setattr__")))
    (bec : PySem.W.subIn K (.ref Cc) (.type "BaseException") = some true)
    (tyc : PySem.W.typeIn K (.ref Cc) = some (.type "type"))
    (kpc : PySem.W.keepIn K (.ref Cc) = true)
    (clc : PySem.W.isClsIn K Cc = true)
    (gac : PySem.W.findIn K (.ref Cc) "__getattribute__" = some (some (.builtin "BaseException.__getattribute__")))
    (gtc : PySem.W.findIn K (.ref Cc) "__getattr__" = some none)
    (cac : PySem.W.findIn K (.ref Cc) "__class__" = some (some (.builtin "object.__class__")))
    (moc : PySem.W.mroIn K Cc (.type "object") = some true)
    (hdc : PySem.W.hasDictIn K Cc = true)
    (vec : PySem.W.subIn K (.ref Cc) (.type "ValueError") = some true)
    (hec : PySem.W.subIn K (.ref Cc) (.ref cH) = some true)
    (inc : PySem.W.findIn K (.ref Cc) "__init__" = some (some (.ref yyc)))
    (isc : PySem.W.typeIn K (.ref yyc) = some (.type "function"))
    (ad : PySem.W.nsIn K mainGlobals "TooMany" = some (some (.ref Cd)))
    (xd : K.lookup Cd = some (excClassObj nmd qd Cd Nd bsd [.ref cH, .type "ValueError", .type "Exception", .type "BaseException", .type "object"] true snd subd abd cold ddd m0d m1d m2d m3d m5d "ValueError.__new__"))
    (sad : PySem.W.findIn K (.ref Cd) "__setattr__" = some (some (.builtin "object.__setattr__")))
    (bed : PySem.W.subIn K (.ref Cd) (.type "BaseException") = some true)
    (tyd : PySem.W.typeIn K (.ref Cd) = some (.type "type"))
    (kpd : PySem.W.keepIn K (.ref Cd) = true)
    (cld : PySem.W.isClsIn K Cd = true)
    (gad : PySem.W.findIn K (.ref Cd) "__getattribute__" = some (some (.builtin "BaseException.__getattribute__")))
    (gtd : PySem.W.findIn K (.ref Cd) "__getattr__" = some none)
    (cad : PySem.W.findIn K (.ref Cd) "__class__" = some (some (.builtin "object.__class__")))
    (mod : PySem.W.mroIn K Cd (.type "object") = some true)
    (hdd : PySem.W.hasDictIn K Cd = true)
    (ved : PySem.W.subIn K (.ref Cd) (.type "ValueError") = some true)
    (hed : PySem.W.subIn K (.ref Cd) (.ref cH) = some true)
    (ind : PySem.W.findIn K (.ref Cd) "__init__" = some (some (.ref yyd)))
    (isd : PySem.W.typeIn K (.ref yyd) = some (.type "function"))
    (ae : PySem.W.nsIn K mainGlobals "NoMachine" = some (some (.ref Ce)))
    (xe : K.lookup Ce = some (excClassObj nme qe Ce Ne bse [.ref cH, .type "ValueError", .type "Exception", .type "BaseException", .type "object"] true sne sube abe cole dde m0e m1e m2e m3e m5e "ValueError.__new__"))
    (sae : PySem.W.findIn K (.ref Ce) "__setattr__" = some (some (.builtin "object.__setattr__")))
    (bee : PySem.W.subIn K (.ref Ce) (.type "BaseException") = some true)
    (tye : PySem.W.typeIn K (.ref Ce) = some (.type "type"))
    (kpe : PySem.W.keepIn K (.ref Ce) = true)
    (cle : PySem.W.isClsIn K Ce = true)
    (gae : PySem.W.findIn K (.ref Ce) "__getattribute__" = some (some (.builtin "BaseException.__getattribute__")))
    (gte : PySem.W.findIn K (.ref Ce) "__getattr__" = some none)
    (cae : PySem.W.findIn K (.ref Ce) "__class__" = some (some (.builtin "object.__class__")))
    (moe : PySem.W.mroIn K Ce (.type "object") = some true)
    (hde : PySem.W.hasDictIn K Ce = true)
    (vee : PySem.W.subIn K (.ref Ce) (.type "ValueError") = some true)
    (hee : PySem.W.subIn K (.ref Ce) (.ref cH) = some true)
    (ine : PySem.W.findIn K (.ref Ce) "__init__" = some (some (.ref yye)))
    (ise : PySem.W.typeIn K (.ref yye) = some (.type "function"))
    (af : PySem.W.nsIn K mainGlobals "NoBelt" = some (some (.ref Cf)))
    (xf : K.lookup Cf = some (excClassObj nmf qf Cf Nf bsf [.ref cH, .type "ValueError", .type "Exception", .type "BaseException", .type "object"] true snf subf abf colf ddf m0f m1f m2f m3f m5f "ValueError.__new__"))
    (saf : PySem.W.findIn K (.ref Cf) "__setattr__" = some (some (.builtin "object.__setattr__")))
    (bef : PySem.W.subIn K (.ref Cf) (.type "BaseException") = some true)
    (tyf : PySem.W.typeIn K (.ref Cf) = some (.type "type"))
    (kpf : PySem.W.keepIn K (.ref Cf) = true)
    (clf : PySem.W.isClsIn K Cf = true)
    (gaf : PySem.W.findIn K (.ref Cf) "__getattribute__" = some (some (.builtin "BaseException.__getattribute__")))
    (gtf : PySem.W.findIn K (.ref Cf) "__getattr__" = some none)
    (caf : PySem.W.findIn K (.ref Cf) "__class__" = some (some (.builtin "object.__class__")))
    (mof : PySem.W.mroIn K Cf (.type "object") = some true)
    (hdf : PySem.W.hasDictIn K Cf = true)
    (vef : PySem.W.subIn K (.ref Cf) (.type "ValueError") = some true)
    (hef : PySem.W.subIn K (.ref Cf) (.ref cH) = some true)
    (inf : PySem.W.findIn K (.ref Cf) "__init__" = some (some (.ref yyf)))
    (isf : PySem.W.typeIn K (.ref yyf) = some (.type "function"))
    (ag : PySem.W.nsIn K mainGlobals "NoCommand" = some (some (.ref Cg)))
    (xg : K.lookup Cg = some (excClassObj nmg qg Cg Ng bsg [.ref cH, .type "ValueError", .type "Exception", .type "BaseException", .type "object"] true sng subg abg colg ddg m0g m1g m2g m3g m5g "ValueError.__new__"))
    (sag : PySem.W.findIn K (.ref Cg) "__setattr__" = some (some (.builtin "object.__setattr__")))
    (beg : PySem.W.subIn K (.ref Cg) (.type "BaseException") = some true)
    (tyg : PySem.W.typeIn K (.ref Cg) = some (.type "type"))
    (kpg : PySem.W.keepIn K (.ref Cg) = true)
    (clg : PySem.W.isClsIn K Cg = true)
    (gag : PySem.W.findIn K (.ref Cg) "__getattribute__" = some (some (.builtin "BaseException.__getattribute__")))
    (gtg : PySem.W.findIn K (.ref Cg) "__getattr__" = some none)
    (cag : PySem.W.findIn K (.ref Cg) "__class__" = some (some (.builtin "object.__class__")))
    (mog : PySem.W.mroIn K Cg (.type "object") = some true)
    (hdg : PySem.W.hasDictIn K Cg = true)
    (veg : PySem.W.subIn K (.ref Cg) (.type "ValueError") = some true)
    (heg : PySem.W.subIn K (.ref Cg) (.ref cH) = some true)
    (ing : PySem.W.findIn K (.ref Cg) "__init__" = some (some (.ref yyg)))
    (isg : PySem.W.typeIn K (.ref yyg) = some (.type "function"))
    (ah : PySem.W.nsIn K mainGlobals "Nothing" = some (some (.ref Ch)))
    (xh : K.lookup Ch = some (excClassObj nmh qh Ch Nh bsh [.ref cH, .type "ValueError", .type "Exception", .type "BaseException", .type "object"] true snh subh abh colh ddh m0h m1h m2h m3h m5h "ValueError.__new__"))
    (sah : PySem.W.findIn K (.ref Ch) "__setattr__" = some (some (.builtin "object.__setattr__")))
    (beh : PySem.W.subIn K (.ref Ch) (.type "BaseException") = some true)
    (tyh : PySem.W.typeIn K (.ref Ch) = some (.type "type"))
    (kph : PySem.W.keepIn K (.ref Ch) = true)
    (clh : PySem.W.isClsIn K Ch = true)
    (gah : PySem.W.findIn K (.ref Ch) "__getattribute__" = some (some (.builtin "BaseException.__getattribute__")))
    (gth : PySem.W.findIn K (.ref Ch) "__getattr__" = some none)
    (cah : PySem.W.findIn K (.ref Ch) "__class__" = some (some (.builtin "object.__class__")))
    (moh : PySem.W.mroIn K Ch (.type "object") = some true)
    (hdh : PySem.W.hasDictIn K Ch = true)
    (veh : PySem.W.subIn K (.ref Ch) (.type "ValueError") = some true)
    (heh : PySem.W.subIn K (.ref Ch) (.ref cH) = some true)
    (inh : PySem.W.findIn K (.ref Ch) "__init__" = some (some (.ref yyh)))
    (ish : PySem.W.typeIn K (.ref yyh) = some (.type "function"))
    (nfa : PySem.W.findIn K (.ref Ca) "place" = some none)
    (lia : K.lookup yya = some ⟨ocia, odia, .func (PySem.W.fnOf "__init__" "Wrong.__init__" (defArgs (iIni 10)) (defBody (iIni 10)) (defScope (iIni 10)) .none kVia dcia pmia ania cdia ctia), slia⟩)
    (cia : PySem.W.codeIn K cdia "Wrong.__init__" = true)
    (kia : PySem.W.keepIn K (.ref yya) = true)
    (nfb : PySem.W.findIn K (.ref Cb) "line" = some none)
    (lib : K.lookup yyb = some ⟨ocib, odib, .func (PySem.W.fnOf "__init__" "NoText.__init__" (defArgs (iIni 11)) (defBody (iIni 11)) (defScope (iIni 11)) .none kVib dcib pmib anib cdib ctib), slib⟩)
    (cib : PySem.W.codeIn K cdib "NoText.__init__" = true)
    (kib : PySem.W.keepIn K (.ref yyb) = true)
    (nfc : PySem.W.findIn K (.ref Cc) "ring" = some none)
    (lic : K.lookup yyc = some ⟨ocic, odic, .func (PySem.W.fnOf "__init__" "Dead.__init__" (defArgs (iIni 12)) (defBody (iIni 12)) (defScope (iIni 12)) .none kVic dcic pmic anic cdic ctic), slic⟩)
    (cic : PySem.W.codeIn K cdic "Dead.__init__" = true)
    (kic : PySem.W.keepIn K (.ref yyc) = true)
    (nfd : PySem.W.findIn K (.ref Cd) "most" = some none)
    (lid : K.lookup yyd = some ⟨ocid, odid, .func (PySem.W.fnOf "__init__" "TooMany.__init__" (defArgs (iIni 13)) (defBody (iIni 13)) (defScope (iIni 13)) .none kVid dcid pmid anid cdid ctid), slid⟩)
    (cid : PySem.W.codeIn K cdid "TooMany.__init__" = true)
    (kid : PySem.W.keepIn K (.ref yyd) = true)
    (nfe : PySem.W.findIn K (.ref Ce) "name" = some none)
    (lie : K.lookup yye = some ⟨ocie, odie, .func (PySem.W.fnOf "__init__" "NoMachine.__init__" (defArgs (iIni 14)) (defBody (iIni 14)) (defScope (iIni 14)) .none kVie dcie pmie anie cdie ctie), slie⟩)
    (cie : PySem.W.codeIn K cdie "NoMachine.__init__" = true)
    (kie : PySem.W.keepIn K (.ref yye) = true)
    (nff : PySem.W.findIn K (.ref Cf) "index" = some none)
    (lif : K.lookup yyf = some ⟨ocif, odif, .func (PySem.W.fnOf "__init__" "NoBelt.__init__" (defArgs (iIni 15)) (defBody (iIni 15)) (defScope (iIni 15)) .none kVif dcif pmif anif cdif ctif), slif⟩)
    (cif : PySem.W.codeIn K cdif "NoBelt.__init__" = true)
    (kif : PySem.W.keepIn K (.ref yyf) = true)
    (nos : PySem.W.nsIn K cStatics "thirdparty.any" = some none)
    (alg : PySem.W.ks_superIn K Cg Cg "__init__" = some (some (.builtin "ValueError.__init__")))
    (owg : PySem.W.mroIn K Cg (.ref Cg) = some true)
    (lig : K.lookup yyg = some ⟨ocig, odig, .func (PySem.W.ksFn "__init__" "NoCommand.__init__" (suArgs ⟨56, 17, 56, 21⟩) (suBody ⟨57, 8, 57, 13⟩ ⟨57, 8, 57, 15⟩ ⟨57, 8, 57, 24⟩ ⟨57, 8, 57, 26⟩ ⟨57, 8, 57, 26⟩) suScope .none kVig dcig pmig anig (.ref cdag) ctig ccg), slig⟩)
    (cig : PySem.W.codeIn K (.ref cdag) "NoCommand.__init__" = true)
    (ldg : K.lookup cdag = some ⟨cclg, ccdg, .fields vsg, ccsg⟩)
    (vtg : vsg[2]? = some (.str fileg tfg))
    (feg : ((P.main.file : Str) == fileg) = true)
    (lcg : K.lookup ccg = some ⟨cl2g, cldg, .cell (some (.ref Cg)), cslg⟩)
    (alh : PySem.W.ks_superIn K Ch Ch "__init__" = some (some (.builtin "ValueError.__init__")))
    (owh : PySem.W.mroIn K Ch (.ref Ch) = some true)
    (lih : K.lookup yyh = some ⟨ocih, odih, .func (PySem.W.ksFn "__init__" "Nothing.__init__" (suArgs ⟨60, 17, 60, 21⟩) (suBody ⟨61, 8, 61, 13⟩ ⟨61, 8, 61, 15⟩ ⟨61, 8, 61, 24⟩ ⟨61, 8, 61, 26⟩ ⟨61, 8, 61, 26⟩) suScope .none kVih dcih pmih anih (.ref cdah) ctih cch), slih⟩)
    (cih : PySem.W.codeIn K (.ref cdah) "Nothing.__init__" = true)
    (ldh : K.lookup cdah = some ⟨cclh, ccdh, .fields vsh, ccsh⟩)
    (vth : vsh[2]? = some (.str fileh tfh))
    (feh : ((P.main.file : Str) == fileh) = true)
    (lch : K.lookup cch = some ⟨cl2h, cldh, .cell (some (.ref Ch)), cslh⟩)
    (top : (P.main.scope.names.lookup ("super" : Str)).isSome = false)
    (Saa : PySem.W.subIn K (.ref Ca) (.ref Ca) = some true)
    (Sab : PySem.W.subIn K (.ref Ca) (.ref Cb) = some false)
    (Sac : PySem.W.subIn K (.ref Ca) (.ref Cc) = some false)
    (Sad : PySem.W.subIn K (.ref Ca) (.ref Cd) = some false)
    (Sae : PySem.W.subIn K (.ref Ca) (.ref Ce) = some false)
    (Saf : PySem.W.subIn K (.ref Ca) (.ref Cf) = some false)
    (Sag : PySem.W.subIn K (.ref Ca) (.ref Cg) = some false)
    (Sah : PySem.W.subIn K (.ref Ca) (.ref Ch) = some false)
    (Sba : PySem.W.subIn K (.ref Cb) (.ref Ca) = some false)
    (Sbb : PySem.W.subIn K (.ref Cb) (.ref Cb) = some true)
    (Sbc : PySem.W.subIn K (.ref Cb) (.ref Cc) = some false)
    (Sbd : PySem.W.subIn K (.ref Cb) (.ref Cd) = some false)
    (Sbe : PySem.W.subIn K (.ref Cb) (.ref Ce) = some false)
    (Sbf : PySem.W.subIn K (.ref Cb) (.ref Cf) = some false)
    (Sbg : PySem.W.subIn K (.ref Cb) (.ref Cg) = some false)
    (Sbh : PySem.W.subIn K (.ref Cb) (.ref Ch) = some false)
    (Sca : PySem.W.subIn K (.ref Cc) (.ref Ca) = some false)
    (Scb : PySem.W.subIn K (.ref Cc) (.ref Cb) = some false)
    (Scc : PySem.W.subIn K (.ref Cc) (.ref Cc) = some true)
    (Scd : PySem.W.subIn K (.ref Cc) (.ref Cd) = some false)
    (Sce : PySem.W.subIn K (.ref Cc) (.ref Ce) = some false)
    (Scf : PySem.W.subIn K (.ref Cc) (.ref Cf) = some false)
    (Scg : PySem.W.subIn K (.ref Cc) (.ref Cg) = some false)
    (Sch : PySem.W.subIn K (.ref Cc) (.ref Ch) = some false)
    (Sda : PySem.W.subIn K (.ref Cd) (.ref Ca) = some false)
    (Sdb : PySem.W.subIn K (.ref Cd) (.ref Cb) = some false)
    (Sdc : PySem.W.subIn K (.ref Cd) (.ref Cc) = some false)
    (Sdd : PySem.W.subIn K (.ref Cd) (.ref Cd) = some true)
    (Sde : PySem.W.subIn K (.ref Cd) (.ref Ce) = some false)
    (Sdf : PySem.W.subIn K (.ref Cd) (.ref Cf) = some false)
    (Sdg : PySem.W.subIn K (.ref Cd) (.ref Cg) = some false)
    (Sdh : PySem.W.subIn K (.ref Cd) (.ref Ch) = some false)
    (Sea : PySem.W.subIn K (.ref Ce) (.ref Ca) = some false)
    (Seb : PySem.W.subIn K (.ref Ce) (.ref Cb) = some false)
    (Sec : PySem.W.subIn K (.ref Ce) (.ref Cc) = some false)
    (Sed : PySem.W.subIn K (.ref Ce) (.ref Cd) = some false)
    (See : PySem.W.subIn K (.ref Ce) (.ref Ce) = some true)
    (Sef : PySem.W.subIn K (.ref Ce) (.ref Cf) = some false)
    (Seg : PySem.W.subIn K (.ref Ce) (.ref Cg) = some false)
    (Seh : PySem.W.subIn K (.ref Ce) (.ref Ch) = some false)
    (Sfa : PySem.W.subIn K (.ref Cf) (.ref Ca) = some false)
    (Sfb : PySem.W.subIn K (.ref Cf) (.ref Cb) = some false)
    (Sfc : PySem.W.subIn K (.ref Cf) (.ref Cc) = some false)
    (Sfd : PySem.W.subIn K (.ref Cf) (.ref Cd) = some false)
    (Sfe : PySem.W.subIn K (.ref Cf) (.ref Ce) = some false)
    (Sff : PySem.W.subIn K (.ref Cf) (.ref Cf) = some true)
    (Sfg : PySem.W.subIn K (.ref Cf) (.ref Cg) = some false)
    (Sfh : PySem.W.subIn K (.ref Cf) (.ref Ch) = some false)
    (Sga : PySem.W.subIn K (.ref Cg) (.ref Ca) = some false)
    (Sgb : PySem.W.subIn K (.ref Cg) (.ref Cb) = some false)
    (Sgc : PySem.W.subIn K (.ref Cg) (.ref Cc) = some false)
    (Sgd : PySem.W.subIn K (.ref Cg) (.ref Cd) = some false)
    (Sge : PySem.W.subIn K (.ref Cg) (.ref Ce) = some false)
    (Sgf : PySem.W.subIn K (.ref Cg) (.ref Cf) = some false)
    (Sgg : PySem.W.subIn K (.ref Cg) (.ref Cg) = some true)
    (Sgh : PySem.W.subIn K (.ref Cg) (.ref Ch) = some false)
    (Sha : PySem.W.subIn K (.ref Ch) (.ref Ca) = some false)
    (Shb : PySem.W.subIn K (.ref Ch) (.ref Cb) = some false)
    (Shc : PySem.W.subIn K (.ref Ch) (.ref Cc) = some false)
    (Shd : PySem.W.subIn K (.ref Ch) (.ref Cd) = some false)
    (She : PySem.W.subIn K (.ref Ch) (.ref Ce) = some false)
    (Shf : PySem.W.subIn K (.ref Ch) (.ref Cf) = some false)
    (Shg : PySem.W.subIn K (.ref Ch) (.ref Cg) = some false)
    (Shh : PySem.W.subIn K (.ref Ch) (.ref Ch) = some true)
    (tnon : PySem.W.subIn K (.type "NoneType") (.type "list") = some false)
    (tbl : PySem.W.subIn K (.type "bool") (.type "list") = some false)
    (tint : PySem.W.subIn K (.type "int") (.type "list") = some false)
    (tstr : PySem.W.subIn K (.type "str") (.type "list") = some false)
    (ttup : PySem.W.subIn K (.type "tuple") (.type "list") = some false)
    (tdic : PySem.W.subIn K (.type "dict") (.type "list") = some false)
    (z_int : PySem.W.nsIn K mainGlobals "int" = some none)
    (z_len : PySem.W.nsIn K mainGlobals "len" = some none)
    (z_abs : PySem.W.nsIn K mainGlobals "abs" = some none)
    (z_repr : PySem.W.nsIn K mainGlobals "repr" = some none)
    (z_isinstance : PySem.W.nsIn K mainGlobals "isinstance" = some none)
    (z_ValueError : PySem.W.nsIn K mainGlobals "ValueError" = some none)
    (z_range : PySem.W.nsIn K mainGlobals "range" = some none)
    (z_list : PySem.W.nsIn K mainGlobals "list" = some none)
    (z_str : PySem.W.nsIn K mainGlobals "str" = some none)
    (z_super : PySem.W.nsIn K mainGlobals "super" = some none)
    (gcd : PySem.W.nsIn K mainGlobals "gcd" = some (some (.builtin "math.gcd")))
    : ∃ fd : FuncData, (∀ (t : Shared) (u : Value), BindsTo t fd ⟨[u], []⟩ [("script", u)]) ∧ ∀ base : Heap, K.In base → base.Ns mainGlobals mg → FnG P w K mg base 5 fa fd ["script"] (spLaw K) := by
  have e := hfa.symm.trans (PySem.W.mg_of X G aLaw)
  cases e
  have FBag := fun_mk (st := topS 19) lBag cBag kBag
  have BBag := FBag.binds (ps := ["script"]) fun _ _ _ _ _ _ us hl => match us, hl with | [_], _ => rfl
  have AtBag : At K mg "_law_bag" (topS 19) ["script"] fBag _ := ⟨FBag, BBag, PySem.W.mg_of X G aBag⟩
  have FTake := fun_mk (st := topS 20) lTake cTake kTake
  have BTake := FTake.binds (ps := ["bag", "many"]) fun _ _ _ _ _ _ us hl => match us, hl with | [_, _], _ => rfl
  have AtTake : At K mg "_law_take" (topS 20) ["bag", "many"] fTake _ := ⟨FTake, BTake, PySem.W.mg_of X G aTake⟩
  have FSome_ := fun_mk (st := topS 21) lSome_ cSome_ kSome_
  have BSome_ := FSome_.binds (ps := ["bag", "things"]) fun _ _ _ _ _ _ us hl => match us, hl with | [_, _], _ => rfl
  have AtSome_ : At K mg "_law_some" (topS 21) ["bag", "things"] fSome_ _ := ⟨FSome_, BSome_, PySem.W.mg_of X G aSome_⟩
  have FAlike := fun_mk (st := topS 22) lAlike cAlike kAlike
  have BAlike := FAlike.binds (ps := ["found", "due"]) fun _ _ _ _ _ _ us hl => match us, hl with | [_, _], _ => rfl
  have AtAlike : At K mg "_law_alike" (topS 22) ["found", "due"] fAlike _ := ⟨FAlike, BAlike, PySem.W.mg_of X G aAlike⟩
  have FOdd := fun_mk (st := topS 23) lOdd cOdd kOdd
  have BOdd := FOdd.binds (ps := ["bag"]) fun _ _ _ _ _ _ us hl => match us, hl with | [_], _ => rfl
  have AtOdd : At K mg "_law_odd" (topS 23) ["bag"] fOdd _ := ⟨FOdd, BOdd, PySem.W.mg_of X G aOdd⟩
  have FLCom := fun_mk (st := topS 24) lLCom cLCom kLCom
  have BLCom := FLCom.binds (ps := ["one", "other"]) fun _ _ _ _ _ _ us hl => match us, hl with | [_, _], _ => rfl
  have AtLCom : At K mg "_law_common" (topS 24) ["one", "other"] fLCom _ := ⟨FLCom, BLCom, PySem.W.mg_of X G aLCom⟩
  have FLRed := fun_mk (st := topS 25) lLRed cLRed kLRed
  have BLRed := FLRed.binds (ps := ["n", "d"]) fun _ _ _ _ _ _ us hl => match us, hl with | [_, _], _ => rfl
  have AtLRed : At K mg "_law_reduced" (topS 25) ["n", "d"] fLRed _ := ⟨FLRed, BLRed, PySem.W.mg_of X G aLRed⟩
  have FInt_ := fun_mk (st := topS 26) lInt_ cInt_ kInt_
  have BInt_ := FInt_.binds (ps := ["bag"]) fun _ _ _ _ _ _ us hl => match us, hl with | [_], _ => rfl
  have AtInt_ : At K mg "_law_integer" (topS 26) ["bag"] fInt_ _ := ⟨FInt_, BInt_, PySem.W.mg_of X G aInt_⟩
  have FFrac := fun_mk (st := topS 27) lFrac cFrac kFrac
  have BFrac := FFrac.binds (ps := ["bag"]) fun _ _ _ _ _ _ us hl => match us, hl with | [_], _ => rfl
  have AtFrac : At K mg "_law_fraction" (topS 27) ["bag"] fFrac _ := ⟨FFrac, BFrac, PySem.W.mg_of X G aFrac⟩
  have FErr := fun_mk (st := topS 28) lErr cErr kErr
  have BErr := FErr.binds (ps := ["one", "two"]) fun _ _ _ _ _ _ us hl => match us, hl with | [_, _], _ => rfl
  have AtErr : At K mg "_law_errors" (topS 28) ["one", "two"] fErr _ := ⟨FErr, BErr, PySem.W.mg_of X G aErr⟩
  have FFld := fun_mk (st := topS 29) lFld cFld kFld
  have BFld := FFld.binds (ps := ["error", "name"]) fun _ _ _ _ _ _ us hl => match us, hl with | [_, _], _ => rfl
  have AtFld : At K mg "_law_field" (topS 29) ["error", "name"] fFld _ := ⟨FFld, BFld, PySem.W.mg_of X G aFld⟩
  have FKin := fun_mk (st := topS 30) lKin cKin kKin
  have BKin := FKin.binds (ps := ["error"]) fun _ _ _ _ _ _ us hl => match us, hl with | [_], _ => rfl
  have AtKin : At K mg "_law_kinds" (topS 30) ["error"] fKin _ := ⟨FKin, BKin, PySem.W.mg_of X G aKin⟩
  have FRight := fun_mk (st := topS 31) lRight cRight kRight
  have BRight := FRight.binds (ps := ["lot", "at"]) fun _ _ _ _ _ _ us hl => match us, hl with | [_, _], _ => rfl
  have AtRight : At K mg "_law_is_error_right" (topS 31) ["lot", "at"] fRight _ := ⟨FRight, BRight, PySem.W.mg_of X G aRight⟩
  have FRed := fun_mk (st := topS 2) lRed cRed kRed
  have BRed := FRed.binds (ps := ["n", "d"]) fun _ _ _ _ _ _ us hl => match us, hl with | [_, _], _ => rfl
  have AtRed : At K mg "reduced" (topS 2) ["n", "d"] fRed _ := ⟨FRed, BRed, PySem.W.mg_of X G aRed⟩
  have FAdd := fun_mk (st := topS 3) lAdd cAdd kAdd
  have BAdd := FAdd.binds (ps := ["one", "other"]) fun _ _ _ _ _ _ us hl => match us, hl with | [_, _], _ => rfl
  have AtAdd : At K mg "added" (topS 3) ["one", "other"] fAdd _ := ⟨FAdd, BAdd, PySem.W.mg_of X G aAdd⟩
  have FLess := fun_mk (st := topS 4) lLess cLess kLess
  have BLess := FLess.binds (ps := ["one", "other"]) fun _ _ _ _ _ _ us hl => match us, hl with | [_, _], _ => rfl
  have AtLess : At K mg "lessened" (topS 4) ["one", "other"] fLess _ := ⟨FLess, BLess, PySem.W.mg_of X G aLess⟩
  have FTimes := fun_mk (st := topS 5) lTimes cTimes kTimes
  have BTimes := FTimes.binds (ps := ["one", "other"]) fun _ _ _ _ _ _ us hl => match us, hl with | [_, _], _ => rfl
  have AtTimes : At K mg "times" (topS 5) ["one", "other"] fTimes _ := ⟨FTimes, BTimes, PySem.W.mg_of X G aTimes⟩
  have FComp := fun_mk (st := topS 6) lComp cComp kComp
  have BComp := FComp.binds (ps := ["one", "other"]) fun _ _ _ _ _ _ us hl => match us, hl with | [_, _], _ => rfl
  have AtComp : At K mg "compared" (topS 6) ["one", "other"] fComp _ := ⟨FComp, BComp, PySem.W.mg_of X G aComp⟩
  have FText := fun_mk (st := topS 7) lText cText kText
  have BText := FText.binds (ps := ["one"]) fun _ _ _ _ _ _ us hl => match us, hl with | [_], _ => rfl
  have AtText : At K mg "fraction_text" (topS 7) ["one"] fText _ := ⟨FText, BText, PySem.W.mg_of X G aText⟩
  have FLaw := fun_mk (st := topS 32) lLaw cLaw kLaw
  have BLaw := FLaw.binds (ps := ["script"]) fun _ _ _ _ _ _ us hl => match us, hl with | [_], _ => rfl
  let C : Cs := ⟨Ca, Cb, Cc, Cd, Ce, Cf, Cg, Ch⟩
  have oexa : OexC K Ca := ⟨⟨_, _, _, _, _, _, _, _, _, _, _, _, _, _, _, xa, by rfl⟩, saa, bea, tya, kpa⟩
  have xca : XC K Ca := ⟨cla, gaa, gta, bea, caa, sp0, tk0, moa, hda⟩
  have rowa : KitRow K C Ca 0 := ⟨kit_own Saa cla tya Saa, kit_own Sbb clb tyb Sab, kit_own Scc clc tyc Sac, kit_own Sdd cld tyd Sad, kit_own See cle tye Sae, kit_own Sff clf tyf Saf, kit_own Sgg clg tyg Sag, kit_own Shh clh tyh Sah⟩
  have kna : Knows K C cH Ca 0 := ⟨xca, rowa, kit_own owH clH tyH hea, kit_typ (by rfl) (by decide +kernel) vea⟩
  have oexb : OexC K Cb := ⟨⟨_, _, _, _, _, _, _, _, _, _, _, _, _, _, _, xb, by rfl⟩, sab, beb, tyb, kpb⟩
  have xcb : XC K Cb := ⟨clb, gab, gtb, beb, cab, sp0, tk0, mob, hdb⟩
  have rowb : KitRow K C Cb 1 := ⟨kit_own Saa cla tya Sba, kit_own Sbb clb tyb Sbb, kit_own Scc clc tyc Sbc, kit_own Sdd cld tyd Sbd, kit_own See cle tye Sbe, kit_own Sff clf tyf Sbf, kit_own Sgg clg tyg Sbg, kit_own Shh clh tyh Sbh⟩
  have knb : Knows K C cH Cb 1 := ⟨xcb, rowb, kit_own owH clH tyH heb, kit_typ (by rfl) (by decide +kernel) veb⟩
  have oexc : OexC K Cc := ⟨⟨_, _, _, _, _, _, _, _, _, _, _, _, _, _, _, xc, by rfl⟩, sac, bec, tyc, kpc⟩
  have xcc : XC K Cc := ⟨clc, gac, gtc, bec, cac, sp0, tk0, moc, hdc⟩
  have rowc : KitRow K C Cc 2 := ⟨kit_own Saa cla tya Sca, kit_own Sbb clb tyb Scb, kit_own Scc clc tyc Scc, kit_own Sdd cld tyd Scd, kit_own See cle tye Sce, kit_own Sff clf tyf Scf, kit_own Sgg clg tyg Scg, kit_own Shh clh tyh Sch⟩
  have knc : Knows K C cH Cc 2 := ⟨xcc, rowc, kit_own owH clH tyH hec, kit_typ (by rfl) (by decide +kernel) vec⟩
  have oexd : OexC K Cd := ⟨⟨_, _, _, _, _, _, _, _, _, _, _, _, _, _, _, xd, by rfl⟩, sad, bed, tyd, kpd⟩
  have xcd : XC K Cd := ⟨cld, gad, gtd, bed, cad, sp0, tk0, mod, hdd⟩
  have rowd : KitRow K C Cd 3 := ⟨kit_own Saa cla tya Sda, kit_own Sbb clb tyb Sdb, kit_own Scc clc tyc Sdc, kit_own Sdd cld tyd Sdd, kit_own See cle tye Sde, kit_own Sff clf tyf Sdf, kit_own Sgg clg tyg Sdg, kit_own Shh clh tyh Sdh⟩
  have knd : Knows K C cH Cd 3 := ⟨xcd, rowd, kit_own owH clH tyH hed, kit_typ (by rfl) (by decide +kernel) ved⟩
  have oexe : OexC K Ce := ⟨⟨_, _, _, _, _, _, _, _, _, _, _, _, _, _, _, xe, by rfl⟩, sae, bee, tye, kpe⟩
  have xce : XC K Ce := ⟨cle, gae, gte, bee, cae, sp0, tk0, moe, hde⟩
  have rowe : KitRow K C Ce 4 := ⟨kit_own Saa cla tya Sea, kit_own Sbb clb tyb Seb, kit_own Scc clc tyc Sec, kit_own Sdd cld tyd Sed, kit_own See cle tye See, kit_own Sff clf tyf Sef, kit_own Sgg clg tyg Seg, kit_own Shh clh tyh Seh⟩
  have kne : Knows K C cH Ce 4 := ⟨xce, rowe, kit_own owH clH tyH hee, kit_typ (by rfl) (by decide +kernel) vee⟩
  have oexf : OexC K Cf := ⟨⟨_, _, _, _, _, _, _, _, _, _, _, _, _, _, _, xf, by rfl⟩, saf, bef, tyf, kpf⟩
  have xcf : XC K Cf := ⟨clf, gaf, gtf, bef, caf, sp0, tk0, mof, hdf⟩
  have rowf : KitRow K C Cf 5 := ⟨kit_own Saa cla tya Sfa, kit_own Sbb clb tyb Sfb, kit_own Scc clc tyc Sfc, kit_own Sdd cld tyd Sfd, kit_own See cle tye Sfe, kit_own Sff clf tyf Sff, kit_own Sgg clg tyg Sfg, kit_own Shh clh tyh Sfh⟩
  have knf : Knows K C cH Cf 5 := ⟨xcf, rowf, kit_own owH clH tyH hef, kit_typ (by rfl) (by decide +kernel) vef⟩
  have oexg : OexC K Cg := ⟨⟨_, _, _, _, _, _, _, _, _, _, _, _, _, _, _, xg, by rfl⟩, sag, beg, tyg, kpg⟩
  have xcg : XC K Cg := ⟨clg, gag, gtg, beg, cag, sp0, tk0, mog, hdg⟩
  have rowg : KitRow K C Cg 6 := ⟨kit_own Saa cla tya Sga, kit_own Sbb clb tyb Sgb, kit_own Scc clc tyc Sgc, kit_own Sdd cld tyd Sgd, kit_own See cle tye Sge, kit_own Sff clf tyf Sgf, kit_own Sgg clg tyg Sgg, kit_own Shh clh tyh Sgh⟩
  have kng : Knows K C cH Cg 6 := ⟨xcg, rowg, kit_own owH clH tyH heg, kit_typ (by rfl) (by decide +kernel) veg⟩
  have oexh : OexC K Ch := ⟨⟨_, _, _, _, _, _, _, _, _, _, _, _, _, _, _, xh, by rfl⟩, sah, beh, tyh, kph⟩
  have xch : XC K Ch := ⟨clh, gah, gth, beh, cah, sp0, tk0, moh, hdh⟩
  have rowh : KitRow K C Ch 7 := ⟨kit_own Saa cla tya Sha, kit_own Sbb clb tyb Shb, kit_own Scc clc tyc Shc, kit_own Sdd cld tyd Shd, kit_own See cle tye She, kit_own Sff clf tyf Shf, kit_own Sgg clg tyg Shg, kit_own Shh clh tyh Shh⟩
  have knh : Knows K C cH Ch 7 := ⟨xch, rowh, kit_own owH clH tyH heh, kit_typ (by rfl) (by decide +kernel) veh⟩
  have FIa := fun_mk (st := iIni 10) lia cia kia
  have BIa := FIa.binds (ps := ["self", "place"]) fun _ _ _ _ _ _ us hl => match us, hl with | [_, _], _ => rfl
  have Ea : ErC K mg "Wrong" "place" "Wrong.__init__" (iIni 10) Ca yya _ := ⟨oexa, xca, ina, isa, nfa, FIa, BIa, PySem.W.mg_of X G aa⟩
  have FIb := fun_mk (st := iIni 11) lib cib kib
  have BIb := FIb.binds (ps := ["self", "line"]) fun _ _ _ _ _ _ us hl => match us, hl with | [_, _], _ => rfl
  have Eb : ErC K mg "NoText" "line" "NoText.__init__" (iIni 11) Cb yyb _ := ⟨oexb, xcb, inb, isb, nfb, FIb, BIb, PySem.W.mg_of X G ab⟩
  have FIc := fun_mk (st := iIni 12) lic cic kic
  have BIc := FIc.binds (ps := ["self", "ring"]) fun _ _ _ _ _ _ us hl => match us, hl with | [_, _], _ => rfl
  have Ec : ErC K mg "Dead" "ring" "Dead.__init__" (iIni 12) Cc yyc _ := ⟨oexc, xcc, inc, isc, nfc, FIc, BIc, PySem.W.mg_of X G ac⟩
  have FId := fun_mk (st := iIni 13) lid cid kid
  have BId := FId.binds (ps := ["self", "most"]) fun _ _ _ _ _ _ us hl => match us, hl with | [_, _], _ => rfl
  have Ed : ErC K mg "TooMany" "most" "TooMany.__init__" (iIni 13) Cd yyd _ := ⟨oexd, xcd, ind, isd, nfd, FId, BId, PySem.W.mg_of X G ad⟩
  have FIe := fun_mk (st := iIni 14) lie cie kie
  have BIe := FIe.binds (ps := ["self", "name"]) fun _ _ _ _ _ _ us hl => match us, hl with | [_, _], _ => rfl
  have Ee : ErC K mg "NoMachine" "name" "NoMachine.__init__" (iIni 14) Ce yye _ := ⟨oexe, xce, ine, ise, nfe, FIe, BIe, PySem.W.mg_of X G ae⟩
  have FIf := fun_mk (st := iIni 15) lif cif kif
  have BIf := FIf.binds (ps := ["self", "index"]) fun _ _ _ _ _ _ us hl => match us, hl with | [_, _], _ => rfl
  have Ef : ErC K mg "NoBelt" "index" "NoBelt.__init__" (iIni 15) Cf yyf _ := ⟨oexf, xcf, inf, isf, nff, FIf, BIf, PySem.W.mg_of X G af⟩
  have Eg : SuC P K mg Cg yyg := ⟨oexg, ing, isg, PySem.W.mg_none_of X G z_super, nos, alg, veg, owg, clg, ⟨_, _, _, _, _, _, _, _, _, _, _, _, _, _, _, _, _, ⟨_, fun _ => rfl⟩, lig, cig, ⟨_, _, _, _, _, _, ldg, vtg, feg⟩, _, _, _, lcg⟩, top⟩
  have Eh : SuC P K mg Ch yyh := ⟨oexh, inh, ish, PySem.W.mg_none_of X G z_super, nos, alh, veh, owh, clh, ⟨_, _, _, _, _, _, _, _, _, _, _, _, _, _, _, _, _, ⟨_, fun _ => rfl⟩, lih, cih, ⟨_, _, _, _, _, _, ldh, vth, feh⟩, _, _, _, lch⟩, top⟩
  have Z : Ers P K mg C := ⟨⟨_, _, Ea⟩, ⟨_, _, Eb⟩, ⟨_, _, Ec⟩, ⟨_, _, Ed⟩, ⟨_, _, Ee⟩, ⟨_, _, Ef⟩, ⟨_, Eg⟩, ⟨_, Eh⟩, PySem.W.mg_of X G ag, PySem.W.mg_of X G ah, xcg, xch⟩
  have T : Txt K mg := ⟨_, _, _, _, _, _, _, _, _, _, _, _, _, _, _, _, _, _, _, _, _, _, _, _, _, _, _, _, _, _, _, _, _, _, _, _, _, _, AtBag, AtTake, AtSome_, AtAlike, AtOdd, AtLCom, AtLRed, AtInt_, AtFrac, AtErr, AtFld, AtKin, AtRight, AtRed, AtAdd, AtLess, AtTimes, AtComp, AtText, PySem.W.mg_none_of X G z_int, PySem.W.mg_none_of X G z_len, PySem.W.mg_none_of X G z_abs, PySem.W.mg_none_of X G z_repr, PySem.W.mg_none_of X G z_isinstance, PySem.W.mg_none_of X G z_ValueError, PySem.W.mg_none_of X G z_range, PySem.W.mg_none_of X G z_list, PySem.W.mg_none_of X G z_str, PySem.W.mg_of X G gcd⟩
  have KL_ : KL K := ⟨kit_typ (by rfl) (by decide +kernel) tnon, kit_typ (by rfl) (by decide +kernel) tbl, kit_typ (by rfl) (by decide +kernel) tint, kit_typ (by rfl) (by decide +kernel) tstr, kit_typ (by rfl) (by decide +kernel) ttup, kit_typ (by rfl) (by decide +kernel) tdic⟩
  exact ⟨_, fun t u => .of_eq rfl, fun base _ _ => ok_law FLaw T Z ⟨kna, knb, knc, knd, kne, knf, kng, knh⟩ ⟨PySem.W.mg_of X G aa, PySem.W.mg_of X G ab, PySem.W.mg_of X G ac, PySem.W.mg_of X G ad, PySem.W.mg_of X G ae, PySem.W.mg_of X G af, PySem.W.mg_of X G ag, PySem.W.mg_of X G ah⟩ (PySem.W.mg_of X G aH) KL_⟩
end K28

open PySem PySem.W PyProof.Rows in
set_option maxRecDepth 100000 in
set_option maxHeartbeats 0 in
theorem PySem.Challenge.cw_fillerfed_k28_errors_and_fractions_holds : PySem.Challenge.rw_fillerfed_k28_errors_and_fractions.Holds := by
  w_on; o_law; k_head; (case hw => w_witness2)
  k_fill
  refine Vd.walkG (l := PySem.Challenge.rw_fillerfed_k28_errors_and_fractions) (n := 63) (k := 5) (x := "script") (sp := K28.spLaw) rfl (by decide +kernel) rfl ⟨rfl, by decide +kernel, by decide +kernel⟩ (fun w h Y => PySem.W.kIn_of Y) ?F (fun K H a ns few sq => ⟨a, ns, rfl, sq, few, fun _ => rfl⟩)
  case F =>
    intro w mg fa h KX G hmg
    refine' K28.all_mk KX G hmg ?aBag ?lBag ?cBag ?kBag ?aTake ?lTake ?cTake ?kTake ?aSome_ ?lSome_ ?cSome_ ?kSome_ ?aAlike ?lAlike ?cAlike ?kAlike ?aOdd ?lOdd ?cOdd ?kOdd ?aLCom ?lLCom ?cLCom ?kLCom ?aLRed ?lLRed ?cLRed ?kLRed ?aInt_ ?lInt_ ?cInt_ ?kInt_ ?aFrac ?lFrac ?cFrac ?kFrac ?aErr ?lErr ?cErr ?kErr ?aFld ?lFld ?cFld ?kFld ?aKin ?lKin ?cKin ?kKin ?aRight ?lRight ?cRight ?kRight ?aRed ?lRed ?cRed ?kRed ?aAdd ?lAdd ?cAdd ?kAdd ?aLess ?lLess ?cLess ?kLess ?aTimes ?lTimes ?cTimes ?kTimes ?aComp ?lComp ?cComp ?kComp ?aText ?lText ?cText ?kText ?aLaw ?lLaw ?cLaw ?kLaw ?aH ?clH ?tyH ?owH ?sp0 ?tk0 ?aa ?xa ?saa ?bea ?tya ?kpa ?cla ?gaa ?gta ?caa ?moa ?hda ?vea ?hea ?ina ?isa ?ab ?xb ?sab ?beb ?tyb ?kpb ?clb ?gab ?gtb ?cab ?mob ?hdb ?veb ?heb ?inb ?isb ?ac ?xc ?sac ?bec ?tyc ?kpc ?clc ?gac ?gtc ?cac ?moc ?hdc ?vec ?hec ?inc ?isc ?ad ?xd ?sad ?bed ?tyd ?kpd ?cld ?gad ?gtd ?cad ?mod ?hdd ?ved ?hed ?ind ?isd ?ae ?xe ?sae ?bee ?tye ?kpe ?cle ?gae ?gte ?cae ?moe ?hde ?vee ?hee ?ine ?ise ?af ?xf ?saf ?bef ?tyf ?kpf ?clf ?gaf ?gtf ?caf ?mof ?hdf ?vef ?hef ?inf ?isf ?ag ?xg ?sag ?beg ?tyg ?kpg ?clg ?gag ?gtg ?cag ?mog ?hdg ?veg ?heg ?ing ?isg ?ah ?xh ?sah ?beh ?tyh ?kph ?clh ?gah ?gth ?cah ?moh ?hdh ?veh ?heh ?inh ?ish ?nfa ?lia ?cia ?kia ?nfb ?lib ?cib ?kib ?nfc ?lic ?cic ?kic ?nfd ?lid ?cid ?kid ?nfe ?lie ?cie ?kie ?nff ?lif ?cif ?kif ?nos ?alg ?owg ?lig ?cig ?ldg ?vtg ?feg ?lcg ?alh ?owh ?lih ?cih ?ldh ?vth ?feh ?lch ?top ?Saa ?Sab ?Sac ?Sad ?Sae ?Saf ?Sag ?Sah ?Sba ?Sbb ?Sbc ?Sbd ?Sbe ?Sbf ?Sbg ?Sbh ?Sca ?Scb ?Scc ?Scd ?Sce ?Scf ?Scg ?Sch ?Sda ?Sdb ?Sdc ?Sdd ?Sde ?Sdf ?Sdg ?Sdh ?Sea ?Seb ?Sec ?Sed ?See ?Sef ?Seg ?Seh ?Sfa ?Sfb ?Sfc ?Sfd ?Sfe ?Sff ?Sfg ?Sfh ?Sga ?Sgb ?Sgc ?Sgd ?Sge ?Sgf ?Sgg ?Sgh ?Sha ?Shb ?Shc ?Shd ?She ?Shf ?Shg ?Shh ?tnon ?tbl ?tint ?tstr ?ttup ?tdic ?z_int ?z_len ?z_abs ?z_repr ?z_isinstance ?z_ValueError ?z_range ?z_list ?z_str ?z_super ?gcd
    (case aBag => k_is)
    (case lBag => k_is)
    (case cBag => k_is)
    (case kBag => k_is)
    (case aTake => k_is)
    (case lTake => k_is)
    (case cTake => k_is)
    (case kTake => k_is)
    (case aSome_ => k_is)
    (case lSome_ => k_is)
    (case cSome_ => k_is)
    (case kSome_ => k_is)
    (case aAlike => k_is)
    (case lAlike => k_is)
    (case cAlike => k_is)
    (case kAlike => k_is)
    (case aOdd => k_is)
    (case lOdd => k_is)
    (case cOdd => k_is)
    (case kOdd => k_is)
    (case aLCom => k_is)
    (case lLCom => k_is)
    (case cLCom => k_is)
    (case kLCom => k_is)
    (case aLRed => k_is)
    (case lLRed => k_is)
    (case cLRed => k_is)
    (case kLRed => k_is)
    (case aInt_ => k_is)
    (case lInt_ => k_is)
    (case cInt_ => k_is)
    (case kInt_ => k_is)
    (case aFrac => k_is)
    (case lFrac => k_is)
    (case cFrac => k_is)
    (case kFrac => k_is)
    (case aErr => k_is)
    (case lErr => k_is)
    (case cErr => k_is)
    (case kErr => k_is)
    (case aFld => k_is)
    (case lFld => k_is)
    (case cFld => k_is)
    (case kFld => k_is)
    (case aKin => k_is)
    (case lKin => k_is)
    (case cKin => k_is)
    (case kKin => k_is)
    (case aRight => k_is)
    (case lRight => k_is)
    (case cRight => k_is)
    (case kRight => k_is)
    (case aRed => k_is)
    (case lRed => k_is)
    (case cRed => k_is)
    (case kRed => k_is)
    (case aAdd => k_is)
    (case lAdd => k_is)
    (case cAdd => k_is)
    (case kAdd => k_is)
    (case aLess => k_is)
    (case lLess => k_is)
    (case cLess => k_is)
    (case kLess => k_is)
    (case aTimes => k_is)
    (case lTimes => k_is)
    (case cTimes => k_is)
    (case kTimes => k_is)
    (case aComp => k_is)
    (case lComp => k_is)
    (case cComp => k_is)
    (case kComp => k_is)
    (case aText => k_is)
    (case lText => k_is)
    (case cText => k_is)
    (case kText => k_is)
    (case aLaw => k_is)
    (case lLaw => k_is)
    (case cLaw => k_is)
    (case kLaw => k_is)
    (case aH => k_is)
    (case clH => k_is)
    (case tyH => k_is)
    (case owH => k_is)
    (case sp0 => k_is)
    (case tk0 => k_is)
    (case aa => k_is)
    (case xa => k_is)
    (case saa => k_is)
    (case bea => k_is)
    (case tya => k_is)
    (case kpa => k_is)
    (case cla => k_is)
    (case gaa => k_is)
    (case gta => k_is)
    (case caa => k_is)
    (case moa => k_is)
    (case hda => k_is)
    (case vea => k_is)
    (case hea => k_is)
    (case ina => k_is)
    (case isa => k_is)
    (case ab => k_is)
    (case xb => k_is)
    (case sab => k_is)
    (case beb => k_is)
    (case tyb => k_is)
    (case kpb => k_is)
    (case clb => k_is)
    (case gab => k_is)
    (case gtb => k_is)
    (case cab => k_is)
    (case mob => k_is)
    (case hdb => k_is)
    (case veb => k_is)
    (case heb => k_is)
    (case inb => k_is)
    (case isb => k_is)
    (case ac => k_is)
    (case xc => k_is)
    (case sac => k_is)
    (case bec => k_is)
    (case tyc => k_is)
    (case kpc => k_is)
    (case clc => k_is)
    (case gac => k_is)
    (case gtc => k_is)
    (case cac => k_is)
    (case moc => k_is)
    (case hdc => k_is)
    (case vec => k_is)
    (case hec => k_is)
    (case inc => k_is)
    (case isc => k_is)
    (case ad => k_is)
    (case xd => k_is)
    (case sad => k_is)
    (case bed => k_is)
    (case tyd => k_is)
    (case kpd => k_is)
    (case cld => k_is)
    (case gad => k_is)
    (case gtd => k_is)
    (case cad => k_is)
    (case mod => k_is)
    (case hdd => k_is)
    (case ved => k_is)
    (case hed => k_is)
    (case ind => k_is)
    (case isd => k_is)
    (case ae => k_is)
    (case xe => k_is)
    (case sae => k_is)
    (case bee => k_is)
    (case tye => k_is)
    (case kpe => k_is)
    (case cle => k_is)
    (case gae => k_is)
    (case gte => k_is)
    (case cae => k_is)
    (case moe => k_is)
    (case hde => k_is)
    (case vee => k_is)
    (case hee => k_is)
    (case ine => k_is)
    (case ise => k_is)
    (case af => k_is)
    (case xf => k_is)
    (case saf => k_is)
    (case bef => k_is)
    (case tyf => k_is)
    (case kpf => k_is)
    (case clf => k_is)
    (case gaf => k_is)
    (case gtf => k_is)
    (case caf => k_is)
    (case mof => k_is)
    (case hdf => k_is)
    (case vef => k_is)
    (case hef => k_is)
    (case inf => k_is)
    (case isf => k_is)
    (case ag => k_is)
    (case xg => k_is)
    (case sag => k_is)
    (case beg => k_is)
    (case tyg => k_is)
    (case kpg => k_is)
    (case clg => k_is)
    (case gag => k_is)
    (case gtg => k_is)
    (case cag => k_is)
    (case mog => k_is)
    (case hdg => k_is)
    (case veg => k_is)
    (case heg => k_is)
    (case ing => k_is)
    (case isg => k_is)
    (case ah => k_is)
    (case xh => k_is)
    (case sah => k_is)
    (case beh => k_is)
    (case tyh => k_is)
    (case kph => k_is)
    (case clh => k_is)
    (case gah => k_is)
    (case gth => k_is)
    (case cah => k_is)
    (case moh => k_is)
    (case hdh => k_is)
    (case veh => k_is)
    (case heh => k_is)
    (case inh => k_is)
    (case ish => k_is)
    (case nfa => k_is)
    (case lia => k_is)
    (case cia => k_is)
    (case kia => k_is)
    (case nfb => k_is)
    (case lib => k_is)
    (case cib => k_is)
    (case kib => k_is)
    (case nfc => k_is)
    (case lic => k_is)
    (case cic => k_is)
    (case kic => k_is)
    (case nfd => k_is)
    (case lid => k_is)
    (case cid => k_is)
    (case kid => k_is)
    (case nfe => k_is)
    (case lie => k_is)
    (case cie => k_is)
    (case kie => k_is)
    (case nff => k_is)
    (case lif => k_is)
    (case cif => k_is)
    (case kif => k_is)
    (case nos => k_is)
    (case alg => ks_is)
    (case owg => k_is)
    (case lig => k_is)
    (case cig => k_is)
    (case ldg => k_is)
    (case vtg => exact rfl)
    (case feg => decide +kernel)
    (case lcg => k_is)
    (case alh => ks_is)
    (case owh => k_is)
    (case lih => k_is)
    (case cih => k_is)
    (case ldh => k_is)
    (case vth => exact rfl)
    (case feh => decide +kernel)
    (case lch => k_is)
    (case top => decide +kernel)
    (case Saa => k_is)
    (case Sab => k_is)
    (case Sac => k_is)
    (case Sad => k_is)
    (case Sae => k_is)
    (case Saf => k_is)
    (case Sag => k_is)
    (case Sah => k_is)
    (case Sba => k_is)
    (case Sbb => k_is)
    (case Sbc => k_is)
    (case Sbd => k_is)
    (case Sbe => k_is)
    (case Sbf => k_is)
    (case Sbg => k_is)
    (case Sbh => k_is)
    (case Sca => k_is)
    (case Scb => k_is)
    (case Scc => k_is)
    (case Scd => k_is)
    (case Sce => k_is)
    (case Scf => k_is)
    (case Scg => k_is)
    (case Sch => k_is)
    (case Sda => k_is)
    (case Sdb => k_is)
    (case Sdc => k_is)
    (case Sdd => k_is)
    (case Sde => k_is)
    (case Sdf => k_is)
    (case Sdg => k_is)
    (case Sdh => k_is)
    (case Sea => k_is)
    (case Seb => k_is)
    (case Sec => k_is)
    (case Sed => k_is)
    (case See => k_is)
    (case Sef => k_is)
    (case Seg => k_is)
    (case Seh => k_is)
    (case Sfa => k_is)
    (case Sfb => k_is)
    (case Sfc => k_is)
    (case Sfd => k_is)
    (case Sfe => k_is)
    (case Sff => k_is)
    (case Sfg => k_is)
    (case Sfh => k_is)
    (case Sga => k_is)
    (case Sgb => k_is)
    (case Sgc => k_is)
    (case Sgd => k_is)
    (case Sge => k_is)
    (case Sgf => k_is)
    (case Sgg => k_is)
    (case Sgh => k_is)
    (case Sha => k_is)
    (case Shb => k_is)
    (case Shc => k_is)
    (case Shd => k_is)
    (case She => k_is)
    (case Shf => k_is)
    (case Shg => k_is)
    (case Shh => k_is)
    (case tnon => k_is)
    (case tbl => k_is)
    (case tint => k_is)
    (case tstr => k_is)
    (case ttup => k_is)
    (case tdic => k_is)
    (case z_int => k_is)
    (case z_len => k_is)
    (case z_abs => k_is)
    (case z_repr => k_is)
    (case z_isinstance => k_is)
    (case z_ValueError => k_is)
    (case z_range => k_is)
    (case z_list => k_is)
    (case z_str => k_is)
    (case z_super => k_is)
    (case gcd => k_is)
