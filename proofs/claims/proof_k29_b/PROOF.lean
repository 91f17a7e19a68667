import PyProof.Rows.All
import Wide.All
import OpenK.AllK
import Wide.FinOn
import HandS.ForMost
import HandS.Exc
import HandS.ExcOwn
import HandS.ExcInit
import HandS.IsInst
import HandS.Gcd
import HandS.RaiseMore
import HandS.FStr
import HandS.ListEq
import HandS.DictEq
import HandS.Wide
import HandS.Evl
import HandS.More
import PySem.Challenge.RW_fillerfed_k29_small_forms_of_any_value
import HandS.SortOrd
import HandS.SortRule
import HandS.Style
import HandS.TryOnly
import KE.KExcIs
import KE.KExcSuper
import HandS.List
import HandS.Text
import HandS.Walk
import HandS.Iter
import HandS.TupMul
import HandS.TupAny
import PyProof.StrOps2
import HandS.DictComp
import HandS.Dict
import HandS.Ends
set_option Elab.async false
set_option linter.all false
set_option maxRecDepth 100000
set_option maxHeartbeats 4000000
set_option exponentiation.threshold 500
/-! V0: what the laws of this program share: data in the abstract heap, == and repr of data at any depth, defs that know that no repr runs around them -/
namespace Vd
open PySem PySem.Spec PyProof.Rows L2

/-! ### defs that are called where no repr is under way -/
/-- a def's promise where nothing around holds a guard (a repr of a list ..) -/
structure FnG (P : Program) (w : World) (K : PySem.W.Frag) (mg : Str → Option Value) (base : Heap) (k : Nat) (f : Addr) (fd : FuncData) (ps : List Str) (sp : Sp) : Prop where
  many : ∀ vs H Q E, sp vs H Q E → vs.length = ps.length
  go : ∀ (B : Around) (frames : List Env) (t : Shared) (G : Hp) (args : Args) (us : List Value) (vs : List V) (Q : VK) (E : XK),
    Room k B → B.guards = some [] → Env0 P w K mg base B frames t G → BindsTo t fd args (ps.zip us) → Vals vs us → sp vs G Q E →
    codeAny (model P w) B (.call (.ref f) args) (CR CX0 frames P w G t Q E) t
section
variable {P : Program} {w : World} {K : PySem.W.Frag} {mg : Str → Option Value} {base : Heap} {k : Nat} {f : Addr} {fd : FuncData} {ps : List Str} {sp : Sp}
theorem FnG.of (F : FnOk P w K mg base CX0 k f fd ps sp) : FnG P w K mg base k f fd ps sp :=
  ⟨F.len, fun B frames t G args us vs Q E room _ env bind rel prom => F.run B frames t G args us vs Q E room env bind rel prom⟩
/-- by the body; the room and the guards are told -/
theorem okG {x qual : Str} {st : Stmt} {N : List Str} (F : Fun K x qual st f fd) (S : FnScope N ps (defScope st)) (many : ∀ vs H Q E, sp vs H Q E → vs.length = ps.length)
    (body : ∀ (cdv : Value) (B : Around) (frames : List Env) (t : Shared) (G : Hp) (vs : List V) (Q : VK) (E : XK),
      Room k (B.deeper (envOfC qual (defScope st) t.heap.objs.size f cdv)) → (B.deeper (envOfC qual (defScope st) t.heap.objs.size f cdv)).guards = some [] → sp vs G Q E →
      ∃ r, PSs (cxOf CX0 P w K mg base N qual (defScope st) f cdv B frames t G E).nox (defBody st) r ∧ r { nx := fun _ G' => Q .non G', rt := Q } (start N vs) G) :
    FnG P w K mg base (k + 1) f fd ps sp := by
  obtain ⟨oc, od, kV, doc, pm, an, cdv, ct, osl, rfl, at_f, code⟩ := F.ex
  refine ⟨many, fun B frames t G args us vs Q E room guards env bind rel prom => ?_⟩
  have there : K.In t.heap := env.mod.kin.keeps fun b o q => (env.bs b o q).1
  refine codeAny_call_function room.depth (there _ _ at_f) rfl S.co S.gen rfl (PySem.W.codeRec_of there code) (bind _ _ _ _ ?_)
  refine wpAny_newFunctionEnv_cells S.kind (fun ⟨n, v⟩ hy => ?_) fun env1 same t1 inside => ?_
  · rcases S.par n (List.of_mem_zip hy).1 with q | q
    · exact Or.inl q
    · exact Or.inr ⟨q, PySem.W.cellsFrom_some _ _ _ (Or.inl q)⟩
  · subst same
    have free : t.heap.NoLimit := env.mod.nolimit.keeps fun b o q => (env.bs b o q).1
    refine ⟨free.keeps inside.toInCall.keep, codeAny_func ?_⟩
    obtain ⟨r, walks, reads⟩ := body cdv B frames t G vs Q E (room.deeper _) guards prom
    have J := inv_start (CX := CX0) (P := P) (w := w) (E := E) S room.hd env (many _ _ _ _ prom) rel inside
    refine wpAny_mono (walks.nox.run [] t1 (start N vs) G _ J reads) (fun flow t2 got => ?_) (fun _ _ no => no)
    cases flow with
    | ret u => obtain ⟨v, σ2, G2, J2, rv, q⟩ := got; exact ⟨v, G2, J2.os, J2.bare, J2.base, J2.hok, rv, q⟩
    | next => obtain ⟨σ2, G2, J2, q⟩ := got; exact ⟨V.non, G2, J2.os, J2.bare, J2.base, J2.hok, rfl, q⟩
    | brk => obtain ⟨_, _, _, no⟩ := got; exact no.elim
    | cont => obtain ⟨_, _, _, no⟩ := got; exact no.elim
end
section
variable {X : Cx} {k : Nat} {f : Addr} {fd : FuncData} {ps : List Str} {sp : Sp}
/-- f(e, ..) where no guard is around -/
theorem callG {x : Str} {p pos : Pos} {e : Expr} {es : List Expr} {ta : TA} (F : FnG X.prog X.w X.K X.mg X.base k f fd ps sp) (room : Room k X.A) (guards : X.A.guards = some []) (hg : Gl X x) (hm : X.mg x = some (.ref f))
    (hk : PySem.W.keepIn X.K (.ref f) = true) (hb : Binds X.K fd ps []) (ha : PA X (e :: es) ta) (nd : (x == ("__debug__" : Str)) = false := by decide)
    (he : starEach (e :: es) X.env = (false, eval e X.env) :: starEach es X.env := by rfl) (hp : (backTo pos (starEach es X.env)).any (·.1) = false := by rfl) :
    PE X (.Call (.Name x p) (e :: es) [] pos) (fun σ H Q => ta σ H fun vs H1 => sp vs H1 Q E0) := by
  constructor
  intro pins s σ H Q I h
  refine wpAny_Call_Name_kw (ld_glob I hg hm ?_ nd)
  refine PySem.W.callWith_K (h₀ := X.base) I.ok.mod.kin hk (thn (ha.run pos pins s σ H _ I h) ?_) he hp
  rintro us s1 ⟨vs, H1, I1, rel, prom⟩
  refine ⟨I1.kIn, ?_⟩
  have bind := hb s1 us I1.kIn (by rw [List.append_nil, ← rel.length]; exact F.many _ _ _ _ prom)
  rw [List.append_nil] at bind
  refine wpAny_call (codeAny_mono (F.go X.A X.stack s1 H1 ⟨us, []⟩ us vs Q E0 room guards I1.env0 bind rel prom) fun r s2 got => ?_)
  match r, got with
  | .ok (.ret u), got => exact I1.after got
  | .ok .next, no => exact no.elim
  | .ok .brk, no => exact no.elim
  | .ok .cont, no => exact no.elim
  | .error _, no => exact no.elim
end
end Vd

namespace Vd
open PySem PySem.Spec PyProof.Rows L2

/-! ### == of tuples within one model -/
section
open AutoSeq1 MeetsSeq MeetsSeq2 MeetsSeq3 SeqRoads2
variable {prog : Program} {w : World}
theorem eqTup (l b : Addr) (xs ys : Array Value) (n m : Nat) (d1 d2 : Option Addr) (s1 s2 : Array (Option Value)) (same : xs.size = ys.size) :
    MeetsIn prog w (Builtin.«tuple.__eq__» ⟨[.ref l, .ref b], []⟩)
      (fun A R s => s.heap.get? l = some { cls := .type "tuple", dict := d1, data := .seq xs n, slots := s1 } ∧ s.heap.get? b = some { cls := .type "tuple", dict := d2, data := .seq ys m, slots := s2 } ∧
        (∀ j (p : j < xs.size) (q : j < ys.size), SeqAt.EqP prog w A.in1 s xs[j] ys[j] true) ∧ R (.ok (.ret (.bool true))) s) := by
  refine MeetsIn.of_wp fun A R s h => ?_
  obtain ⟨hp, g, d, tk, os⟩ := s
  obtain ⟨hl, hb, he, h⟩ := h
  have both := AutoSeq1.sub_tuple_tuple
  have len : (xs.toList.zip ys.toList).length = xs.size := by simp [same]
  wp_walk using wpAny_loadPart' hl, wpAny_loadPart' hb, wpAny_forIn_list _ (fun rest b s' => b.1 = none ∧ s' = ⟨hp, g, d, tk, os⟩ ∧ ∃ i, rest = (xs.toList.zip ys.toList).drop i) _
  case turn =>
    rintro ⟨y, x⟩ rest b s' ⟨hb', rfl, i, hz⟩
    have small : i < (xs.toList.zip ys.toList).length := by
      refine Nat.lt_of_not_le fun big => ?_
      rw [List.drop_of_length_le big] at hz
      cases hz
    have p : i < xs.size := len ▸ small
    have q : i < ys.size := same ▸ p
    rw [List.drop_eq_getElem_cons small] at hz
    injection hz with yx tail
    obtain ⟨ey, ex⟩ := Prod.mk.inj yx
    have ey' : y = xs[i] := by simpa using ey
    have ex' : x = ys[i] := by simpa using ex
    subst ey' ex'
    refine wpAny_bind (he i p q _ _ ?_)
    wp_walk
    exact ⟨rfl, rfl, i + 1, tail⟩
  case fin =>
    rintro ⟨b1, b2⟩ s' ⟨none1, rfl, i, _⟩
    simp only at none1
    subst none1
    wp_walk
    refine ⟨_, rfl, ?_⟩
    simpa [Builtin.Tuple.tupleCompareSizes, same] using h
  case h => exact ⟨rfl, rfl, 0, rfl⟩
theorem rcTup {A : Around} {s : Shared} {l b : Addr} {xs ys : Array Value} (hl : s.heap.IsTuple l xs) (hb : s.heap.IsTuple b ys) (same : xs.size = ys.size) (room : A.units < cLine)
    (he : ∀ j (p : j < xs.size) (q : j < ys.size), SeqAt.EqP prog w A.in1 s xs[j] ys[j] true) (E Q : Value → Shared → Prop) (h : Q (.bool true) s) : wpAny (model prog w) A (richCompare .Eq (.ref l) (.ref b)) Q E s := by
  obtain ⟨⟨_, d1, _, s1⟩, o1, rfl, n, rfl⟩ := id hl
  obtain ⟨⟨_, d2, _, s2⟩, o2, rfl, m, rfl⟩ := id hb
  have t1 : s.TypeIs (.ref l) "tuple" := ⟨_, o1, rfl⟩
  refine wpAny_richCompare_same_room (op := .Eq) t1 ⟨_, o2, rfl⟩ F.slot_tuple_eq ?_ room
  exact call_meetsIn F.slot_tuple_eq t1 F.entry_tuple_eq (F.args_tuple_eq_2 _ _) (eqTup l b xs ys n m d1 d2 s1 s2 same) ⟨o1, o2, he, (show Value.bool true ≠ Value.notImplemented ∧ Q (.bool true) s from ⟨fun no => (nomatch no), h⟩)⟩
end

/-! ### data in a heap: its dicts are not the module's own -/
mutual
inductive Rd2 (h : Heap) : Value → PyData → Prop
  | non : Rd2 h .none .none
  | bl (b : Bool) : Rd2 h (.bool b) (.bool b)
  | int (i : Int) (t : Tok) : Rd2 h (.int i t) (.int i)
  | str (x : Str) (t : Tok) : Rd2 h (.str x t) (.str x)
  | lst {a : Addr} {o : Obj} {items : Array Value} {n : Nat} {ds : List PyData} : h.get? a = some o → o.cls = .type "list" → o.data = .seq items n → Rd2s h items.toList ds → Rd2 h (.ref a) (.list ds)
  | tup {a : Addr} {o : Obj} {items : Array Value} {n : Nat} {ds : List PyData} : h.get? a = some o → o.cls = .type "tuple" → o.data = .seq items n → Rd2s h items.toList ds → Rd2 h (.ref a) (.tuple ds)
  | dic {a : Addr} {o : Obj} {es : Array DictEntry} {n : Nat} {ds : List (PyData × PyData)} : (a == sysModules) = false → h.get? a = some o → o.cls = .type "dict" → o.data = .dict es n →
      Rd2s h (es.toList.map (·.key)) (ds.map (·.1)) → Rd2s h (es.toList.map (·.val)) (ds.map (·.2)) → Rd2 h (.ref a) (.dict ds)
inductive Rd2s (h : Heap) : List Value → List PyData → Prop
  | nil : Rd2s h [] []
  | cons {v : Value} {vs : List Value} {d : PyData} {ds : List PyData} : Rd2 h v d → Rd2s h vs ds → Rd2s h (v :: vs) (d :: ds)
end
mutual
theorem Rd2.reads {h : Heap} : ∀ {v : Value} {d : PyData}, Rd2 h v d → ∃ as, Reads h v d as
  | _, _, .non => ⟨_, Reads.none⟩
  | _, _, .bl b => ⟨_, Reads.bool b⟩
  | _, _, .int i t => ⟨_, Reads.int i t⟩
  | _, _, .str x t => ⟨_, Reads.str x t⟩
  | _, _, .lst a b c r => let ⟨_, q⟩ := Rd2s.reads r; ⟨_, Reads.list a b c q⟩
  | _, _, .tup a b c r => let ⟨_, q⟩ := Rd2s.reads r; ⟨_, Reads.tuple a b c q⟩
  | _, _, .dic _ a b c r r' => let ⟨_, q⟩ := Rd2s.reads r; let ⟨_, q'⟩ := Rd2s.reads r'; ⟨_, Reads.dict a b c q q'⟩
theorem Rd2s.reads {h : Heap} : ∀ {vs : List Value} {ds : List PyData}, Rd2s h vs ds → ∃ as, ReadsAll h vs ds as
  | _, _, .nil => ⟨_, ReadsAll.nil⟩
  | _, _, .cons r rs => let ⟨_, q⟩ := Rd2.reads r; let ⟨_, q'⟩ := Rd2s.reads rs; ⟨_, ReadsAll.cons q q'⟩
end
/-- what can be shown, within the line -/
def Shows (d : PyData) : Prop := d.showable = true ∧ d.shown.length ≤ sizeLine
def ShowsAll (ds : List PyData) : Prop := PyData.showableAll ds = true ∧ ∀ t ∈ PyData.shownAll ds, t.length ≤ sizeLine
theorem ShowsAll.of_list {ds : List PyData} (h : Shows (.list ds)) : ShowsAll ds :=
  ⟨by simpa [PyData.showable] using h.1, fun t m => Nat.le_trans (listText_mem_le m) (by simpa only [PyData.shown] using h.2)⟩
theorem ShowsAll.of_tup {ds : List PyData} (h : Shows (.tuple ds)) : ShowsAll ds :=
  ⟨by simpa [PyData.showable] using h.1, fun t m => Nat.le_trans (tupleText_mem_le m) (by simpa only [PyData.shown] using h.2)⟩
theorem ShowsAll.of_dic {ds : List (PyData × PyData)} (h : Shows (.dict ds)) : ShowsAll (ds.map (·.1)) ∧ ShowsAll (ds.map (·.2)) := by
  obtain ⟨a, b⟩ := PyData.showableKv_split ds (by simpa [PyData.showable] using h.1)
  have z : (dictText (PyData.shownKv ds)).length ≤ sizeLine := by simpa only [PyData.shown] using h.2
  refine ⟨⟨a, fun t m => ?_⟩, b, fun t m => ?_⟩
  · obtain ⟨p, hp, hl⟩ := PyData.shownKv_key_le ds t m
    exact Nat.le_trans hl (Nat.le_trans (dictText_mem_le hp) z)
  · obtain ⟨p, hp, hl⟩ := PyData.shownKv_val_le ds t m
    exact Nat.le_trans hl (Nat.le_trans (dictText_mem_le hp) z)
section
variable {prog : Program} {w : World} {h : Heap}
/-- a list's, a tuple's, a dict's parts, none of which is the object itself -/
theorem apart {a : Addr} {d : PyData} {n : Nat} {bs : List Addr} (r : Rd2 h (.ref a) d) (deep : n < d.depth) (low : ReadAtMost h n bs) : a ∉ bs :=
  let ⟨_, q⟩ := r.reads; not_mem_of_deeper q deep low
theorem with_own {a : Addr} {d : PyData} {n : Nat} {bs : List Addr} (r : Rd2 h (.ref a) d) (deep : n ≤ d.depth) (low : ReadAtMost h n bs) : ReadAtMost h d.depth (a :: bs) :=
  let ⟨_, q⟩ := r.reads; ReadAtMost.cons q deep low
def KAll (prog : Program) (w : World) (h : Heap) (vs : List Value) (ds : List PyData) : Prop := ∃ bs, ReadAtMost h (PyData.depthAll ds) bs ∧ ReprAllK prog w bs h (PyData.depthAll ds) vs (PyData.shownAll ds)
theorem kEnt {es : List DictEntry} {ds : List (PyData × PyData)} (k : KAll prog w h (es.map (·.key)) (ds.map (·.1))) (v : KAll prog w h (es.map (·.val)) (ds.map (·.2))) :
    ∃ bs, ReadAtMost h (PyData.depthKv ds) bs ∧ ReprEntriesK prog w bs h (PyData.depthKv ds) es (PyData.shownKv ds) := by
  obtain ⟨b1, l1, k1⟩ := k
  obtain ⟨b2, l2, k2⟩ := v
  refine ⟨b1 ++ b2, (l1.mono (PyData.depthAll_keys_le ds)).append (l2.mono (PyData.depthAll_vals_le ds)), ?_⟩
  rw [PyData.shownKv_eq]
  exact .of_two es _ _ (k1.more_le (fun b m => List.mem_append_left b2 m) (PyData.depthAll_keys_le ds)) (k2.more_le (fun b m => List.mem_append_right b1 m) (PyData.depthAll_vals_le ds))
mutual
theorem repK : ∀ {v : Value} {d : PyData}, Rd2 h v d → Shows d → ∃ bs, ReadAtMost h d.depth bs ∧ ReprK prog w bs h d.depth v d.shown
  | _, _, .non, _ => ⟨[], (fun _ no => nomatch no), by simpa only [PyData.shown] using ReprK.of_is ReprIs.none _ _ _⟩
  | _, _, .bl b, _ => ⟨[], (fun _ no => nomatch no), by simpa only [PyData.shown] using ReprK.of_is (ReprIs.bool b) _ _ _⟩
  | _, _, .int i t, z => ⟨[], (fun _ no => nomatch no), by simpa only [PyData.shown] using ReprK.of_is (ReprIs.int t (of_decide_eq_true z.1)) _ _ _⟩
  | _, _, .str x t, z => ⟨[], (fun _ no => nomatch no), by simpa only [PyData.shown] using ReprK.of_is (ReprIs.str x t z.2) _ _ _⟩
  | _, _, .lst (a := a) (items := items) (ds := ds) o1 o2 o3 r, z => by
    have me : Rd2 h (.ref a) (.list ds) := .lst o1 o2 o3 r
    obtain ⟨bs, low, ks⟩ := repKs r (.of_list z)
    refine ⟨a :: bs, with_own me (Nat.le_succ _) low, ?_⟩
    show ReprK prog w (a :: bs) h (PyData.depthAll ds + 1) (.ref a) (listText (PyData.shownAll ds))
    obtain ⟨l⟩ := items
    cases l with
    | nil =>
      cases (show Rd2s h [] ds from r)
      exact ReprK.listEmpty o1 o2 o3
    | cons x l => exact ReprK.list o1 o2 o3 (apart me (Nat.lt_succ_self _) low) (by simpa using ks.length_eq) fun i y e => ks.item i y (by simpa using e)
  | _, _, .tup (a := a) (ds := ds) o1 o2 o3 r, z => by
    have me : Rd2 h (.ref a) (.tuple ds) := .tup o1 o2 o3 r
    obtain ⟨bs, low, ks⟩ := repKs r (.of_tup z)
    exact ⟨a :: bs, with_own me (Nat.le_succ _) low, ReprK.tuple o1 o2 o3 (apart me (Nat.lt_succ_self _) low) ks⟩
  | _, _, .dic (a := a) (ds := ds) far o1 o2 o3 r r', z => by
    have me : Rd2 h (.ref a) (.dict ds) := .dic far o1 o2 o3 r r'
    obtain ⟨bs, low, ks⟩ := kEnt (repKs r (ShowsAll.of_dic z).1) (repKs r' (ShowsAll.of_dic z).2)
    exact ⟨a :: bs, with_own me (Nat.le_succ _) low, ReprK.dict o1 o2 o3 far (apart me (Nat.lt_succ_self _) low) ks⟩
theorem repKs : ∀ {vs : List Value} {ds : List PyData}, Rd2s h vs ds → ShowsAll ds → KAll prog w h vs ds
  | _, _, .nil, _ => ⟨[], (fun _ no => nomatch no), .nil⟩
  | _, _, .cons (d := d) (ds := ds) r rs, z => by
    have z1 : d.showable = true ∧ PyData.showableAll ds = true := by simpa [PyData.showableAll] using z.1
    obtain ⟨b1, l1, k1⟩ := repK r ⟨z1.1, z.2 _ (List.Mem.head _)⟩
    obtain ⟨b2, l2, k2⟩ := repKs rs ⟨z1.2, fun t m => z.2 t (List.Mem.tail _ m)⟩
    have le1 : d.depth ≤ PyData.depthAll (d :: ds) := Nat.le_max_left _ _
    have le2 : PyData.depthAll ds ≤ PyData.depthAll (d :: ds) := Nat.le_max_right _ _
    exact ⟨b1 ++ b2, (l1.mono le1).append (l2.mono le2), .cons ((k1.more fun b m => List.mem_append_left _ m).level_le le1) (k2.more_le (fun b m => List.mem_append_right _ m) le2)⟩
end
/-- repr(v) -/
theorem reprRun {A : Around} {E : Value → Shared → Prop} {s : Shared} {Q : Value → Shared → Prop} : ∀ {v : Value} {d : PyData}, Rd2 s.heap v d → Shows d → A.guards = some [] → A.units + (d.depth + 1) < cLine →
    (∀ h' u tk, (∀ b o, s.heap.get? b = some o → h'.get? b = some o) → Q (.str d.shown u) { s with heap := h', toks := tk }) → wpAny (model prog w) A (call (.builtin "repr") [v]) Q E s
  | _, _, .non, _, _, _, q => PySem.P.repr_of_none (q _ _ _ fun _ _ e => e)
  | _, _, .bl b, _, _, _, q => PySem.P.repr_of_bool (q _ _ _ fun _ _ e => e)
  | _, _, .int i t, z, _, _, q => PySem.P.repr_of_int (of_decide_eq_true z.1) (q _ _ _ fun _ _ e => e)
  | _, _, .str x t, z, _, _, q => PySem.P.repr_of_str (q _ _ _ fun _ _ e => e) z.2
  | _, _, .lst (a := a) (items := items) (ds := ds) o1 o2 o3 r, z, g, room, q => by
    have me : Rd2 s.heap (.ref a) (.list ds) := .lst o1 o2 o3 r
    obtain ⟨bs, low, ks⟩ := repKs (prog := prog) (w := w) r (.of_list z)
    have room' : A.units + (PyData.depthAll ds + 1 + 1) < cLine := room
    refine call_repr_slot (by omega) ⟨_, o1, o2⟩ F.slot_list_repr.toG ?_
    obtain ⟨l⟩ := items
    cases l with
    | nil =>
      cases (show Rd2s s.heap [] ds from r)
      exact call_list_repr_empty ⟨_, o1, o2⟩ o1 o3 ⟨_, _, rfl, q s.heap _ _ fun _ _ e => e⟩
    | cons x l =>
      exact call_list_reprK o1 o2 o3 (apart me (Nat.lt_succ_self _) low) (by simpa using ks.length_eq) (fun i y e => ks.item i y (by simpa using e)) g (fun b _ => Clear.nil b) (by show A.units + 1 + _ < cLine; omega) (fun _ _ e => e)
        (fun h' u tk k => ⟨_, _, rfl, q h' u tk k⟩) z.2
  | _, _, .tup (a := a) (ds := ds) o1 o2 o3 r, z, g, room, q => by
    have me : Rd2 s.heap (.ref a) (.tuple ds) := .tup o1 o2 o3 r
    obtain ⟨bs, low, ks⟩ := repKs (prog := prog) (w := w) r (.of_tup z)
    have room' : A.units + (PyData.depthAll ds + 1 + 1) < cLine := room
    refine call_repr_slot (by omega) ⟨_, o1, o2⟩ F.slot_tuple_repr ?_
    exact call_tuple_reprK o1 o2 o3 (apart me (Nat.lt_succ_self _) low) ks g (fun b _ => Clear.nil b) (by show A.units + 1 + _ < cLine; omega) (fun _ _ e => e) (fun h' u tk k => ⟨_, _, rfl, q h' u tk k⟩) z.2
  | _, _, .dic (a := a) (ds := ds) far o1 o2 o3 r r', z, g, room, q => by
    have me : Rd2 s.heap (.ref a) (.dict ds) := .dic far o1 o2 o3 r r'
    obtain ⟨bs, low, ks⟩ := kEnt (repKs (prog := prog) (w := w) r (ShowsAll.of_dic z).1) (repKs r' (ShowsAll.of_dic z).2)
    have room' : A.units + (PyData.depthKv ds + 1 + 1) < cLine := room
    refine call_repr_slot (by omega) ⟨_, o1, o2⟩ F.slot_dict_repr ?_
    exact call_dict_reprK o1 o2 o3 far (apart me (Nat.lt_succ_self _) low) ks g (fun b _ => Clear.nil b) (by show A.units + 1 + _ < cLine; omega) (fun _ _ e => e) (fun h' u tk k => ⟨_, _, rfl, q h' u tk k⟩) z.2
end

/-! ### data in the abstract heap -/
def keyD : Key → PyData
  | .inl i => .int i
  | .inr x => .str x
mutual
/-- the value v is the data d: None, truths, ints, texts, lists, tuples, dicts by ints and texts -/
inductive Dat (K : PySem.W.Frag) (H : Hp) : V → PyData → Prop
  | non : Dat K H .non .none
  | bl (b : Bool) : Dat K H (.bl b) (.bool b)
  | int (i : Int) : Dat K H (.int i) (.int i)
  | str (x : Str) : Dat K H (.str x) (.str x)
  | lst {a : Addr} {xs : List V} {ds : List PyData} : SqL K H a xs → DatAll K H xs ds → Dat K H (.ref a) (.list ds)
  | tup {a : Addr} {xs : List V} {ds : List PyData} : SqT K H a xs → DatAll K H xs ds → Dat K H (.ref a) (.tuple ds)
  | dic {a : Addr} {kvs : List (Key × V)} {ds : List (PyData × PyData)} : H a = some (.dK kvs) → DatKv K H kvs ds → Dat K H (.ref a) (.dict ds)
inductive DatAll (K : PySem.W.Frag) (H : Hp) : List V → List PyData → Prop
  | nil : DatAll K H [] []
  | cons {v : V} {vs : List V} {d : PyData} {ds : List PyData} : Dat K H v d → DatAll K H vs ds → DatAll K H (v :: vs) (d :: ds)
inductive DatKv (K : PySem.W.Frag) (H : Hp) : List (Key × V) → List (PyData × PyData) → Prop
  | nil : DatKv K H [] []
  | cons {k : Key} {v : V} {r : List (Key × V)} {d : PyData} {ds : List (PyData × PyData)} : Dat K H v d → DatKv K H r ds → DatKv K H ((k, v) :: r) ((keyD k, d) :: ds)
end

/-! #### it stands in the heap -/
section
variable {X : Cx} {pins : List (Addr × Obj)} {σ : L2.St} {H : Hp} {s : Shared}
theorem key_reads {h : Heap} {k : Key} {u : Value} (r : keyIs k u = true) : Rd2 h u (keyD k) := by
  rcases keyIs_shape r with ⟨i, t, rfl, rfl⟩ | ⟨x, t, rfl, rfl⟩
  · exact .int i t
  · exact .str x t
theorem keys_read {w : World} {P : Program} {h : Heap} {es : List DictEntry} {vs : List (Key × Value)} (p : Pairs (mixKind P w) es vs) : Rd2s h (es.map (·.key)) (vs.map fun q => keyD q.1) ∧ es.map (·.val) = vs.map (·.2) := by
  induction p with
  | nil => exact ⟨.nil, rfl⟩
  | cons a b c ih => exact ⟨.cons (key_reads a) ih.1, by simp only [List.map_cons, b, ih.2]⟩
mutual
theorem Dat.rds (I : Inv X pins σ H s) : ∀ (d : PyData) (v : V) (u : Value), Dat X.K H v d → RelV v u → Rd2 s.heap u d
  | .none, _, _, h, r => by cases h; cases r; exact .non
  | .bool b, _, _, h, r => by cases h; cases r; exact .bl b
  | .int i, _, _, h, r => by cases h; obtain ⟨t, rfl⟩ := r; exact .int i t
  | .str x, _, _, h, r => by cases h; obtain ⟨t, rfl⟩ := r; exact .str x t
  | .list ds, _, _, h, r => by
    cases h with
    | @lst a xs _ at_a items =>
      cases r
      obtain ⟨its, rel, ⟨o, n, e1, e2, _, e3⟩, _⟩ := I.list at_a
      exact .lst e1 e2 e3 (DatAll.rds I ds _ its items rel)
  | .tuple ds, _, _, h, r => by
    cases h with
    | @tup a xs _ at_a items =>
      cases r
      obtain ⟨its, rel, ⟨o, e1, e2, n, e3⟩, _⟩ := I.tuple at_a
      exact .tup e1 e2 e3 (DatAll.rds I ds _ its items rel)
  | .dict ds, _, _, h, r => by
    cases h with
    | @dic a kvs _ at_a items =>
      cases r
      obtain ⟨_, far, vs, rel, o, es, ep, e1, e2, e3, _, pairs, _⟩ := (show ObjOk X.prog X.w H s.heap a (.dK kvs) from I.hok a _ at_a)
      obtain ⟨vals, names⟩ := DatKv.rds I ds kvs vs items rel
      obtain ⟨keys, same⟩ := keys_read (h := s.heap) pairs
      rw [← same] at vals
      rw [← names] at keys
      exact .dic far e1 e2.1 e3 keys vals
theorem DatAll.rds (I : Inv X pins σ H s) : ∀ (ds : List PyData) (vs : List V) (us : List Value), DatAll X.K H vs ds → Vals vs us → Rd2s s.heap us ds
  | [], _, _, h, r => by cases h; cases r; exact .nil
  | d :: ds, _, _, h, r => by
    cases h with
    | cons h1 h2 =>
      cases r with
      | cons r1 r2 => exact .cons (Dat.rds I d _ _ h1 r1) (DatAll.rds I ds _ _ h2 r2)
theorem DatKv.rds (I : Inv X pins σ H s) : ∀ (ds : List (PyData × PyData)) (kvs : List (Key × V)) (vs : List (Key × Value)), DatKv X.K H kvs ds → KV kvs vs →
    Rd2s s.heap (vs.map (·.2)) (ds.map (·.2)) ∧ ds.map (·.1) = vs.map fun q => keyD q.1
  | [], _, _, h, r => by cases h; cases r; exact ⟨.nil, rfl⟩
  | d :: ds, _, _, h, r => by
    cases h with
    | @cons k v kvs d1 _ h1 h2 =>
      cases r with
      | @cons _ b _ _ r1 r2 =>
        obtain ⟨q1, q2⟩ := DatKv.rds I ds _ _ h2 r2
        have e : k = b.1 := r1.1
        exact ⟨.cons (Dat.rds I d1 v b.2 h1 r1.2) q1, by simp only [List.map_cons, q2, e]⟩
end
end
end Vd

namespace Vd
open PySem PySem.Spec PyProof.Rows L2

/-! ### equal data are equal -/
section
variable {X : Cx} {pins : List (Addr × Obj)} {σ : L2.St} {H : Hp} {s : Shared}
/-- richCompare of the same data is True -/
def RcP (P : Program) (w : World) (A : Around) (s : Shared) (u v : Value) : Prop := ∀ E Q : Value → Shared → Prop, Q (.bool true) s → wpAny (model P w) A (richCompare .Eq u v) Q E s
def EqT (P : Program) (w : World) (A : Around) (s : Shared) (u v : Value) : Prop := SeqAt.EqP P w A s u v true
def EqTs (P : Program) (w : World) (A : Around) (s : Shared) (us vs : List Value) : Prop := us.length = vs.length ∧ ∀ j (p : j < us.length) (q : j < vs.length), EqT P w A s us[j] vs[j]
theorem EqTs.nil {P : Program} {w : World} {A : Around} {s : Shared} : EqTs P w A s [] [] := ⟨rfl, fun j p _ => absurd p (Nat.not_lt_zero j)⟩
theorem EqTs.cons {P : Program} {w : World} {A : Around} {s : Shared} {u v : Value} {us vs : List Value} (h : EqT P w A s u v) (r : EqTs P w A s us vs) : EqTs P w A s (u :: us) (v :: vs) := by
  refine ⟨congrArg (· + 1) r.1, fun j p q => ?_⟩
  cases j with
  | zero => exact h
  | succ j => exact r.2 j (Nat.lt_of_succ_lt_succ p) (Nat.lt_of_succ_lt_succ q)
theorem eq_of_rc {P : Program} {w : World} {A : Around} {s : Shared} {a b : Addr} (h : a ≠ b → RcP P w A s (.ref a) (.ref b)) : EqT P w A s (.ref a) (.ref b) := by
  by_cases e : a = b
  · subst e
    exact (SeqAt.EqAt.same _).eqP
  · exact SeqAt.eqP_refs e (h e)
def display : PyData → Bool
  | .list _ | .tuple _ | .dict _ => true
  | _ => false
theorem key_one {k k' : Key} (h : keyD k = keyD k') : k = k' := by
  cases k <;> cases k' <;> simp [keyD] at h <;> simp [h]
theorem DatKv.inv {K : PySem.W.Frag} {G : Hp} {kvs : List (Key × V)} {kd d : PyData} {ds : List (PyData × PyData)} (h : DatKv K G kvs ((kd, d) :: ds)) : ∃ k v r, kvs = (k, v) :: r ∧ kd = keyD k ∧ Dat K G v d ∧ DatKv K G r ds := by
  cases h with
  | cons a b => exact ⟨_, _, _, rfl, rfl, a, b⟩
/-- the keys of two dicts with the same data are the same -/
theorem kv_val {K : PySem.W.Frag} {G : Hp} : ∀ {ds : List (PyData × PyData)} {kvs ls : List (Key × V)}, DatKv K G kvs ds → DatKv K G ls ds → kvs.map (·.1) = ls.map (·.1)
  | [], _, _, h, h' => by cases h; cases h'; rfl
  | (kd, d) :: ds, _, _, h, h' => by
    obtain ⟨k, v, r, rfl, e, _, b⟩ := h.inv
    obtain ⟨k', v', r', rfl, e', _, b'⟩ := h'.inv
    rw [List.map_cons, List.map_cons, kv_val b b', key_one (e.symm.trans e')]
mutual
theorem Dat.eqT (I : Inv X pins σ H s) : ∀ (d : PyData) (A : Around) (x y : V) (u v : Value), A.units + d.depth < cLine → Dat X.K H x d → Dat X.K H y d → RelV x u → RelV y v → EqT X.prog X.w A s u v
  | .none, A, _, _, _, _, _, h, h', r, r' => by cases h; cases h'; exact (eqAt_same r r' rfl).eqP
  | .bool b, A, _, _, _, _, _, h, h', r, r' => by cases h; cases h'; exact (eqAt_same r r' rfl).eqP
  | .int i, A, _, _, _, _, _, h, h', r, r' => by cases h; cases h'; exact (eqAt_same r r' rfl).eqP
  | .str x, A, _, _, _, _, _, h, h', r, r' => by cases h; cases h'; exact (eqAt_same r r' rfl).eqP
  | .list ds, A, _, _, _, _, room, h, h', r, r' => by
    have rc := Dat.rcT I (.list ds) A _ _ _ _ room rfl h h' r r'
    cases h; cases h'; cases r; cases r'
    exact eq_of_rc fun _ => rc
  | .tuple ds, A, _, _, _, _, room, h, h', r, r' => by
    have rc := Dat.rcT I (.tuple ds) A _ _ _ _ room rfl h h' r r'
    cases h; cases h'; cases r; cases r'
    exact eq_of_rc fun _ => rc
  | .dict ds, A, _, _, _, _, room, h, h', r, r' => by
    have rc := Dat.rcT I (.dict ds) A _ _ _ _ room rfl h h' r r'
    cases h; cases h'; cases r; cases r'
    exact eq_of_rc fun _ => rc
theorem Dat.rcT (I : Inv X pins σ H s) : ∀ (d : PyData) (A : Around) (x y : V) (u v : Value), A.units + d.depth < cLine → display d = true →
    Dat X.K H x d → Dat X.K H y d → RelV x u → RelV y v → RcP X.prog X.w A s u v
  | .none, _, _, _, _, _, _, no, _, _, _, _ => nomatch no
  | .bool _, _, _, _, _, _, _, no, _, _, _, _ => nomatch no
  | .int _, _, _, _, _, _, _, no, _, _, _, _ => nomatch no
  | .str _, _, _, _, _, _, _, no, _, _, _, _ => nomatch no
  | .list ds, A, _, _, _, _, room, _, h, h', r, r' => by
    have room2 : A.units + (PyData.depthAll ds + 1) < cLine := room
    cases h with
    | lst p1 items =>
      cases h' with
      | lst p2 items' =>
        cases r; cases r'
        obtain ⟨us, r1, l1, _⟩ := I.list p1
        obtain ⟨vs, r2, l2, _⟩ := I.list p2
        obtain ⟨len, each⟩ := DatAll.eqTs I ds A.in1 _ _ us vs (by show A.units + 1 + _ < cLine; omega) items items' r1 r2
        intro E Q q
        refine SeqAt.rcP_lists (e := fun _ => true) l1.isList l2.isList (by simpa using len) (by omega) (fun j p q => ?_) E Q ?_
        · simpa [EqT] using each j (by simpa using p) (by simpa using q)
        · rw [List.all_eq_true.mpr fun _ _ => rfl]
          exact q
  | .tuple ds, A, _, _, _, _, room, _, h, h', r, r' => by
    have room2 : A.units + (PyData.depthAll ds + 1) < cLine := room
    cases h with
    | tup p1 items =>
      cases h' with
      | tup p2 items' =>
        cases r; cases r'
        obtain ⟨us, r1, ⟨o1, e1, c1, n1, d1⟩, _⟩ := I.tuple p1
        obtain ⟨vs, r2, ⟨o2, e2, c2, n2, d2⟩, _⟩ := I.tuple p2
        obtain ⟨len, each⟩ := DatAll.eqTs I ds A.in1 _ _ us vs (by show A.units + 1 + _ < cLine; omega) items items' r1 r2
        exact rcTup ⟨o1, e1, c1, n1, d1⟩ ⟨o2, e2, c2, n2, d2⟩ (by simpa using len) (by omega) fun j p q => by simpa [EqT] using each j (by simpa using p) (by simpa using q)
  | .dict ds, A, _, _, _, _, room, _, h, h', r, r' => by
    have room2 : A.units + (PyData.depthKv ds + 1) < cLine := room
    cases h with
    | @dic a kvs _ p1 items =>
      cases h' with
      | @dic b ls _ p2 items' =>
        cases r; cases r'
        obtain ⟨_, f1, us, r1, m1⟩ := (show ObjOk X.prog X.w H s.heap a (.dK kvs) from I.hok a _ p1)
        obtain ⟨_, f2, vs, r2, m2⟩ := (show ObjOk X.prog X.w H s.heap b (.dK ls) from I.hok b _ p2)
        have nd : (vs.map (·.1)).Nodup := by obtain ⟨_, _, _, _, _, _, _, _, z⟩ := m2; exact z
        have hits := DatKv.hits I ds A.in1 kvs ls us vs vs (by show A.units + 1 + _ < cLine; omega) items items' r1 r2 nd fun _ m => m
        have len : us.length = vs.length := by
          have e := congrArg List.length (kv_val items items')
          rw [List.length_map, List.length_map] at e
          have e1 := Paired.length r1
          have e2 := Paired.length r2
          omega
        intro E Q q
        refine PySem.W.rcP_dicts (knd := mixKind X.prog X.w) (r := true) f1 f2 m1 m2 (by omega) (fun _ => hits) E Q ?_
        rw [len]
        simpa using q
theorem DatAll.eqTs (I : Inv X pins σ H s) : ∀ (ds : List PyData) (A : Around) (xs ys : List V) (us vs : List Value), A.units + PyData.depthAll ds < cLine → DatAll X.K H xs ds → DatAll X.K H ys ds → Vals xs us → Vals ys vs → EqTs X.prog X.w A s us vs
  | [], _, _, _, _, _, _, h, h', r, r' => by cases h; cases h'; cases r; cases r'; exact .nil
  | d :: ds, A, _, _, _, _, room, h, h', r, r' => by
    have room2 : A.units + max d.depth (PyData.depthAll ds) < cLine := room
    have := Nat.le_max_left d.depth (PyData.depthAll ds)
    have := Nat.le_max_right d.depth (PyData.depthAll ds)
    cases h with
    | cons a b =>
      cases h' with
      | cons a' b' =>
        cases r with
        | cons r1 r2 =>
          cases r' with
          | cons r1' r2' => exact .cons (Dat.eqT I d A _ _ _ _ (by omega) a a' r1 r1') (DatAll.eqTs I ds A _ _ _ _ (by omega) b b' r2 r2')
theorem DatKv.hits (I : Inv X pins σ H s) : ∀ (ds : List (PyData × PyData)) (A : Around) (kvs ls : List (Key × V)) (us vs all : List (Key × Value)), A.units + PyData.depthKv ds < cLine → DatKv X.K H kvs ds → DatKv X.K H ls ds → KV kvs us → KV ls vs →
    (all.map (·.1)).Nodup → (∀ p ∈ vs, p ∈ all) → PySem.W.KeqHitsP X.prog X.w A s all us true
  | [], _, _, _, _, _, _, _, h, h', r, r', _, _ => by cases h; cases r; exact .nil
  | (kd, d) :: ds, A, _, _, _, _, all, room, h, h', r, r', nd, sub => by
    have room2 : A.units + max (max kd.depth d.depth) (PyData.depthKv ds) < cLine := room
    have l1 := Nat.le_max_left (max kd.depth d.depth) (PyData.depthKv ds)
    have l2 := Nat.le_max_right (max kd.depth d.depth) (PyData.depthKv ds)
    have l3 := Nat.le_max_right kd.depth d.depth
    obtain ⟨k, v, kvs, rfl, e0, a, b⟩ := h.inv
    obtain ⟨k', v', ls, rfl, e0', a', b'⟩ := h'.inv
    have e3 : k = k' := key_one (e0.symm.trans e0')
    cases r with
    | @cons _ q _ us r1 r2 =>
      cases r' with
      | @cons _ q' _ vs r1' r2' =>
            obtain ⟨qk, qv⟩ := q
            obtain ⟨qk', qv'⟩ := q'
            have e1 : k = qk := r1.1
            have e2 : k' = qk' := r1'.1
            subst e1 e2 e3
            have at_k : valueAt all k = some qv' := by
              have mem := sub (k, qv') (List.Mem.head _)
              unfold valueAt
              clear sub r1 r1' r2 r2'
              induction all with
              | nil => exact nomatch mem
              | cons p all ih =>
                have nd' : (p.1 :: all.map (·.1)).Nodup := nd
                rcases List.mem_cons.mp mem with e | m
                · subst e
                  simp
                · have ne : p.1 ≠ k := fun e => (List.nodup_cons.mp nd').1 (e ▸ List.mem_map_of_mem (f := (·.1)) m)
                  rw [List.find?_cons_of_neg (by simpa using ne)]
                  exact ih (List.nodup_cons.mp nd').2 m
            exact .hit (e := true) (b := true) at_k (Dat.eqT I d A _ _ _ _ (by omega) a a' r1.2 r1'.2) (DatKv.hits I ds A _ _ us vs all (by omega) b b' r2 r2' nd fun p m => sub p (List.Mem.tail _ m))
end
end
section
variable {X : Cx}
/-- x == y of the same data: True -/
theorem op_eqDat (room : X.A.units + 64 < cLine) : OpR X (compareOp .Eq) (fun x y H Q => ∃ d, Dat X.K H x d ∧ Dat X.K H y d ∧ d.depth ≤ 60 ∧ Q (.bl true) H) := by
  rintro pins s σ H x y u v Q I rx ry ⟨d, h1, h2, deep, q⟩
  have fin : EP X pins σ Q (.bool true) s := ⟨.bl true, H, I, rfl, q⟩
  have go : display d = true → wpAny (model X.prog X.w) X.A (compareOp .Eq u v) (EP X pins σ Q) X.xe s := fun kind => by
    exact Dat.rcT I d X.A x y u v (by omega) kind h1 h2 rx ry _ _ fin
  have flat : ∀ z : V, x = z → y = z → scal z z = true → wpAny (model X.prog X.w) X.A (compareOp .Eq u v) (EP X pins σ Q) X.xe s := fun z e1 e2 sc => by
    subst e1
    subst e2
    exact op_eq pins s σ H _ _ u v Q I rx ry ⟨sc, by simpa using q⟩
  cases d with
  | none => cases h1; cases h2; exact flat _ rfl rfl rfl
  | bool b => cases h1; cases h2; exact flat _ rfl rfl rfl
  | int i => cases h1; cases h2; exact flat _ rfl rfl rfl
  | str x => cases h1; cases h2; exact flat _ rfl rfl rfl
  | list ds => exact go rfl
  | tuple ds => exact go rfl
  | dict ds => exact go rfl
/-- repr(x) -/
theorem call_reprD (room : X.A.units + 64 < cLine) (guards : X.A.guards = some []) : CallR X (.builtin "repr") (fun xs H Q => ∃ x d, xs = [x] ∧ Dat X.K H x d ∧ Shows d ∧ d.depth ≤ 60 ∧ Q (.str d.shown) H) := by
  rintro pins s σ H xs us Q I r ⟨x, d, rfl, h, z, deep, q⟩
  obtain ⟨u, rfl, rx⟩ := vals1 r
  exact reprRun (Dat.rds I d x u h rx) z guards (by omega) fun h' t tk kept => ⟨.str d.shown, H, I.kept (t' := tk) kept, ⟨t, rfl⟩, q⟩
/-- xs[i] in an augmented assignment -/
theorem get_list : PGet X (rIxL X.K) := by
  rintro pins s σ H x y v u Q I rx ry ⟨p, xs, i, z, rfl, rfl, hq, he, q⟩
  cases rx
  obtain ⟨t, rfl⟩ := ry
  obtain ⟨its, r, pl, hz⟩ := I.list hq
  obtain ⟨j, h1, h2, h3, h4, h5⟩ := atI_get he
  obtain ⟨w, ew, rw'⟩ := r.get h2
  have len := r.length
  have wide := line63
  have fin : EP X pins σ Q w s := ⟨z, H, I, rw', q⟩
  by_cases up : 0 ≤ i
  · rw [seqIndex_of up h5] at h1
    cases h1
    exact wpAny_getItem_list pl.isList up (by omega) (by simpa using ew) fin
  · rw [seqIndex_neg (by omega) h4] at h1
    have e := Option.some.inj h1
    rw [len] at e
    exact wpAny_getItem_list_neg pl.isList (by omega) (by rw [List.size_toArray] <;> omega) (by omega) (by rw [List.size_toArray, e]; simpa using ew) fin
end
end Vd

namespace Vd
open PySem PySem.Spec PyProof.Rows L2

/-! ### how long what is shown can be -/
def signsOk (x : Str) : Bool := x.cps.toList.all fun c => decide (c < 16 ^ 8)
mutual
def wgt : PyData → Nat
  | .none => 4
  | .bool _ => 5
  | .int _ => 1921
  | .str x => 10 * x.length + 2
  | .list xs => wgts xs + 2
  | .tuple xs => wgts xs + 4
  | .dict kvs => wgtk kvs + 2
def wgts : List PyData → Nat
  | [] => 0
  | x :: xs => wgt x + 2 + wgts xs
def wgtk : List (PyData × PyData) → Nat
  | [] => 0
  | (k, v) :: r => wgt k + wgt v + 4 + wgtk r
end
mutual
def nice : PyData → Bool
  | .none => true
  | .bool _ => true
  | .int i => decide (i.natAbs.log2 < 1920)
  | .str x => signsOk x
  | .list xs => nices xs
  | .tuple xs => nices xs
  | .dict kvs => nicek kvs
def nices : List PyData → Bool
  | [] => true
  | x :: xs => nice x && nices xs
def nicek : List (PyData × PyData) → Bool
  | [] => true
  | (k, v) :: r => nice k && nice v && nicek r
end
/-- texts, joined by two signs each -/
def sums (ts : List Str) : Nat := (ts.map fun t => t.length + 2).sum
theorem sums_cons (t : Str) (ts : List Str) : sums (t :: ts) = t.length + 2 + sums ts := by simp [sums]
theorem two_signs (k : Nat) : (if k > 0 then ", " else "" : Str).length ≤ 2 := by
  split <;> decide
theorem from_le : ∀ (ts : List Str) (k : Nat) (acc : Str), (textFrom k acc ts).length ≤ acc.length + sums ts
  | [], k, acc => Nat.le_add_right _ _
  | t :: ts, k, acc => by
    have ih := from_le ts (k + 1) (acc ++ (if k > 0 then ", " else "" : String) ++ t)
    rw [strLen_append, strLen_append] at ih
    rw [sums_cons]
    have two : (Str.ofString (if k > 0 then ", " else "")).length ≤ 2 := by split <;> decide
    unfold textFrom
    omega
theorem join_le : ∀ ts : List Str, (Str.join ", " ts).length ≤ sums ts
  | [] => Nat.zero_le _
  | [x] => by show x.length ≤ _; rw [sums_cons]; omega
  | x :: y :: r => by
    have ih := join_le (y :: r)
    show (x ++ (", " : Str) ++ Str.join ", " (y :: r)).length ≤ _
    rw [strLen_append, strLen_append, sums_cons]
    have two : (Str.ofString ", ").length = 2 := by decide
    omega
theorem list_le (ts : List Str) : (listText ts).length ≤ sums ts + 2 := by
  unfold listText
  rw [strLen_append]
  have h := from_le ts 0 "["
  have e1 : (Str.ofString "[").length = 1 := by decide
  have e2 : (Str.ofString "]").length = 1 := by decide
  omega
theorem tup_le (ts : List Str) : (tupleText ts).length ≤ sums ts + 4 := by
  unfold tupleText
  rw [strLen_append, strLen_append]
  have h := join_le ts
  have e1 : (Str.ofString "(").length = 1 := by decide
  have e2 : (Str.ofString (if (ts.length == 1) = true then ",)" else ")")).length ≤ 2 := by split <;> decide
  omega
theorem dict_le (ts : List Str) : (dictText ts).length ≤ sums ts + 2 := by
  unfold dictText
  rw [strLen_append, strLen_append]
  have h := join_le ts
  have e1 : (Str.ofString "{").length = 1 := by decide
  have e2 : (Str.ofString "}").length = 1 := by decide
  omega
mutual
theorem shown_le : ∀ d : PyData, nice d = true → d.shown.length ≤ wgt d
  | .none, _ => by simp only [PyData.shown, wgt]; decide
  | .bool b, _ => by simp only [PyData.shown, wgt]; cases b <;> decide
  | .int i, h => by simp only [PyData.shown, wgt]; exact int_text_len_1921 (of_decide_eq_true (by simpa [nice] using h))
  | .str x, h => by
    simp only [PyData.shown, wgt]
    refine StrLaws.reprText_len x fun c m => ?_
    have all : signsOk x = true := by simpa [nice] using h
    exact of_decide_eq_true (List.all_eq_true.mp all c m)
  | .list xs, h => by
    have ih := showns_le xs (by simpa [nice] using h)
    simp only [PyData.shown, wgt]
    exact Nat.le_trans (list_le _) (Nat.add_le_add_right ih 2)
  | .tuple xs, h => by
    have ih := showns_le xs (by simpa [nice] using h)
    simp only [PyData.shown, wgt]
    exact Nat.le_trans (tup_le _) (Nat.add_le_add_right ih 4)
  | .dict kvs, h => by
    have ih := shownk_le kvs (by simpa [nice] using h)
    simp only [PyData.shown, wgt]
    exact Nat.le_trans (dict_le _) (Nat.add_le_add_right ih 2)
theorem showns_le : ∀ ds : List PyData, nices ds = true → sums (PyData.shownAll ds) ≤ wgts ds
  | [], _ => by simp [PyData.shownAll, sums]
  | d :: ds, h => by
    have h' : nice d = true ∧ nices ds = true := by simpa [nices] using h
    have a := shown_le d h'.1
    have b := showns_le ds h'.2
    simp only [PyData.shownAll, wgts, sums_cons]
    omega
theorem shownk_le : ∀ ds : List (PyData × PyData), nicek ds = true → sums (PyData.shownKv ds) ≤ wgtk ds
  | [], _ => by simp [PyData.shownKv, sums]
  | (k, v) :: ds, h => by
    have h' : (nice k = true ∧ nice v = true) ∧ nicek ds = true := by simpa [nicek] using h
    have a := shown_le k h'.1.1
    have b := shown_le v h'.1.2
    have c := shownk_le ds h'.2
    have e : (Str.ofString ": ").length = 2 := by decide
    simp only [PyData.shownKv, wgtk, sums_cons]
    rw [strLen_append, strLen_append]
    omega
end
mutual
theorem showable_of : ∀ d : PyData, nice d = true → d.showable = true
  | .none, _ => rfl
  | .bool _, _ => rfl
  | .int i, h => by simpa [nice, PyData.showable] using h
  | .str _, _ => rfl
  | .list xs, h => by simpa [PyData.showable] using showables_of xs (by simpa [nice] using h)
  | .tuple xs, h => by simpa [PyData.showable] using showables_of xs (by simpa [nice] using h)
  | .dict kvs, h => by simpa [PyData.showable] using showablek_of kvs (by simpa [nice] using h)
theorem showables_of : ∀ ds : List PyData, nices ds = true → PyData.showableAll ds = true
  | [], _ => rfl
  | d :: ds, h => by
    have h' : nice d = true ∧ nices ds = true := by simpa [nices] using h
    simp [PyData.showableAll, showable_of d h'.1, showables_of ds h'.2]
theorem showablek_of : ∀ ds : List (PyData × PyData), nicek ds = true → PyData.showableKv ds = true
  | [], _ => rfl
  | (k, v) :: ds, h => by
    have h' : (nice k = true ∧ nice v = true) ∧ nicek ds = true := by simpa [nicek] using h
    simp [PyData.showableKv, showable_of k h'.1.1, showable_of v h'.1.2, showablek_of ds h'.2]
end
theorem Shows.of {d : PyData} (h : nice d = true) (low : wgt d ≤ 10000000) : Shows d :=
  ⟨showable_of d h, Nat.le_trans (shown_le d h) (Nat.le_trans low (by rw [sizeLine_eq]; decide))⟩

/-! ### data where the heap grows -/
theorem Rd.up {H H' : Hp} (e : ∀ p o, H p = some o → H' p = some o) {a : Addr} {u : HO} (h : Rd H a u) : Rd H' a u := by
  rcases h with h | ⟨o, h⟩
  · exact .inl (e _ _ h)
  · exact .inr ⟨o, e _ _ h⟩
theorem sql_up {K : PySem.W.Frag} {H H' : Hp} (e : ∀ p o, H p = some o → H' p = some o) {a : Addr} {xs : List V} (h : SqL K H a xs) : SqL K H' a xs := by
  rcases h with h | h
  · exact .inl (Rd.up e h)
  · exact .inr h
theorem sqt_up {K : PySem.W.Frag} {H H' : Hp} (e : ∀ p o, H p = some o → H' p = some o) {a : Addr} {xs : List V} (h : SqT K H a xs) : SqT K H' a xs := by
  rcases h with h | h
  · exact .inl (Rd.up e h)
  · exact .inr h
mutual
theorem Dat.up {K : PySem.W.Frag} {H H' : Hp} (e : ∀ p o, H p = some o → H' p = some o) : ∀ {v : V} {d : PyData}, Dat K H v d → Dat K H' v d
  | _, _, .non => .non
  | _, _, .bl b => .bl b
  | _, _, .int i => .int i
  | _, _, .str x => .str x
  | _, _, .lst a b => .lst (sql_up e a) (DatAll.up e b)
  | _, _, .tup a b => .tup (sqt_up e a) (DatAll.up e b)
  | _, _, .dic a b => .dic (e _ _ a) (DatKv.up e b)
theorem DatAll.up {K : PySem.W.Frag} {H H' : Hp} (e : ∀ p o, H p = some o → H' p = some o) : ∀ {vs : List V} {ds : List PyData}, DatAll K H vs ds → DatAll K H' vs ds
  | _, _, .nil => .nil
  | _, _, .cons a b => .cons (Dat.up e a) (DatAll.up e b)
theorem DatKv.up {K : PySem.W.Frag} {H H' : Hp} (e : ∀ p o, H p = some o → H' p = some o) : ∀ {vs : List (Key × V)} {ds : List (PyData × PyData)}, DatKv K H vs ds → DatKv K H' vs ds
  | _, _, .nil => .nil
  | _, _, .cons a b => .cons (Dat.up e a) (DatKv.up e b)
end
theorem DatAll.snoc {K : PySem.W.Frag} {H : Hp} {v : V} {d : PyData} (h : Dat K H v d) : ∀ {vs : List V} {ds : List PyData}, DatAll K H vs ds → DatAll K H (vs ++ [v]) (ds ++ [d])
  | _, _, .nil => .cons h .nil
  | _, _, .cons a b => .cons a (DatAll.snoc h b)
end Vd

namespace K29
open PySem PySem.Spec PyProof.Rows L2 Vd Evl
def topS (i : Nat) : Stmt := PySem.Challenge.pw_fillerfed_k29_small_forms_of_any_value.main.body.getD i (.Pass ⟨0, 0, 0, 0⟩)
abbrev sBag : Stmt := topS 16
abbrev sTake : Stmt := topS 17
abbrev sSome : Stmt := topS 18
abbrev sAlike : Stmt := topS 20
theorem scBag : FnScope ["script", "cell"] ["script"] (defScope sBag) := ⟨rfl, rfl, rfl, by decide +kernel, rfl, by decide +kernel, by decide +kernel⟩
theorem scTake : FnScope ["bag", "many", "cell", "stirred", "value", "begin", "second"] ["bag", "many"] (defScope sTake) := ⟨rfl, rfl, rfl, by decide +kernel, rfl, by decide +kernel, by decide +kernel⟩
theorem scSome : FnScope ["bag", "things"] ["bag", "things"] (defScope sSome) := ⟨rfl, rfl, rfl, by decide +kernel, rfl, by decide +kernel, by decide +kernel⟩

/-! ### heaps: all as it was but the bag -/
def But (b : Addr) (H H' : Hp) : Prop := (∀ p o, p ≠ b → H p = some o → H' p = some o) ∧
  ∀ (x y z : Int) (c : Addr), H b = some (.lst [.int x, .int y, .int z, .ref c]) → ∃ x' y' z' : Int, H' b = some (.lst [.int x', .int y', .int z', .ref c])
theorem But.refl (b : Addr) (H : Hp) : But b H H := ⟨fun _ _ _ e => e, fun x y z _ e => ⟨x, y, z, e⟩⟩
theorem But.trans {b : Addr} {H H1 H2 : Hp} (x : But b H H1) (y : But b H1 H2) : But b H H2 := ⟨fun p o n e => y.1 p o n (x.1 p o n e), fun i j k c e => by
  obtain ⟨i', j', k', e'⟩ := x.2 i j k c e
  exact y.2 _ _ _ _ e'⟩
theorem But.of {b : Addr} {H H1 : Hp} (x : Same H H1) : But b H H1 := ⟨fun p o _ e => x p o e, fun i j k c e => ⟨i, j, k, x _ _ e⟩⟩
theorem But.upd {b c : Addr} {H H1 : Hp} {i j k i' j' k' : Int} (x : But b H H1) (at_b : H b = some (.lst [.int i, .int j, .int k, .ref c])) : But b H (upd H1 b (.lst [.int i', .int j', .int k', .ref c])) := ⟨fun p u n e => by
  rw [upd_ne n]
  exact x.1 p u n e, fun i2 j2 k2 c2 e => by
  rw [at_b] at e
  cases e
  exact ⟨i', j', k', upd_same⟩⟩
theorem But.new {b p : Addr} {H H1 : Hp} {o : HO} (x : But b H H1) (n : H1 p = none) : But b H (L2.upd H1 p o) := ⟨fun q u ne e => by
  have e1 := x.1 q u ne e
  rw [upd_ne (ne_of_none e1 n)]
  exact e1, fun i j k c e => by
  obtain ⟨i', j', k', e'⟩ := x.2 i j k c e
  exact ⟨i', j', k', by rw [upd_ne (ne_of_none e' n)]; exact e'⟩⟩
def BagAt (H : Hp) (b : Addr) : Prop := ∃ (x y z : Int) (c : Addr) (ns : List Int), H b = some (.lst [.int x, .int y, .int z, .ref c]) ∧ H c = some (.lst (ns.map V.int)) ∧ ns.length ≤ 63
theorem same_new {H : Hp} {p : Addr} {o : HO} (h : H p = none) : Same H (upd H p o) := fun b x e => by
  rw [upd_ne (ne_of_none e h)]
  exact e
theorem len_line {n : Nat} (h : n ≤ 100000) : n ≤ sizeLine := Nat.le_trans h (by decide)

section
variable {P : Program} {w : World} {K : PySem.W.Frag} {mg : Str → Option Value} {base : Heap}
/-! ### the bag -/
def spBag (K : PySem.W.Frag) : Sp := fun vs H Q _ => ∃ (a : Addr) (ns : List Int), vs = [.ref a] ∧ SqL K H a (ns.map V.int) ∧ ns.length ≤ 63 ∧ ∀ H' p, Same H H' → H p = none → BagAt H' p → Q (.ref p) H'
theorem cut_ints (ns : List Int) (lo hi : Option Int) : ∃ ms : List Int, cutV (ns.map V.int) lo hi = ms.map V.int ∧ ms.length ≤ ns.length := by
  refine ⟨(ns.drop (HT.sIx (ns.map V.int).length 0 lo)).take (HT.sIx (ns.map V.int).length (ns.map V.int).length hi - HT.sIx (ns.map V.int).length 0 lo), ?_, ?_⟩
  · unfold cutV
    rw [List.map_take, List.map_drop]
  · rw [List.length_take, List.length_drop]
    omega
theorem ok_bag {f : Addr} {fd : FuncData} (F : Fun K "_law_bag" "_law_bag" sBag f fd) (ma : mg "abs" = none) : FnOk P w K mg base CX0 1 f fd ["script"] (spBag K) := by
  refine F.ok scBag (fun vs H Q E h => ?_) (fun cdv A outer s H vs Q E hr h => ?_)
  · obtain ⟨a, ns, rfl, _⟩ := h
    rfl
  · obtain ⟨a, ns, rfl, hS, hlen, q⟩ := h
    refine ⟨_, pss_one (ps_ret (pe_lst (pa_cons pe_int (pa_cons pe_int (pa_cons pe_int (pa_cons
      (pe_lc (own := [("cell", 1)]) (g := gName 1) (tt := tYes) rfl scBag.nd (pi_list (pe_slice sl_list (pv 0) po_none (po_some pe_int)))
        (blkOk_by (N := ["script", "cell"]) (sc := defScope sBag) (by decide +kernel)) (fun _ _ _ _ _ => pg_name (i := 1) scBag.nd rfl (Or.inl rfl)) (fun _ _ _ _ _ => pts_nil)
        (fun _ _ _ _ _ => pe_callB call_abs (by rfl) ma (by decide +kernel) (pa_cons (pv 1) pa_nil)))
      pa_nil)))))), ?_⟩
    obtain ⟨ms, cut, small⟩ := cut_ints ns none (some 63)
    refine ⟨.ref a, rfl, 63, rfl, a, ns.map V.int, rfl, hS, fun c nc => ?_⟩
    rw [cut]
    have s1 : Same H (upd H c (.lst (ms.map V.int))) := same_new nc
    refine ⟨c, rfl, ⟨_, SqL.of upd_same⟩, fun D nD => ?_⟩
    have cD : c ≠ D := ne_of_none (upd_same (H := H) (a := c)) nD
    refine lc_list (K := K) (a := c) (xs := ms.map V.int) (fun i G => ∃ os : List Int, os.length = i ∧ G D = some (.lst (os.map V.int)) ∧ G c = some (.lst (ms.map V.int)) ∧ Same H G) ?_ ?_ ?_ ?_
    · exact ⟨[], rfl, upd_same, by rw [upd_ne cD, upd_same], s1.trans (same_new nD)⟩
    · rintro i G _ ⟨os, _, _, at_c, _⟩
      exact SqL.of at_c
    · rintro i x G at_i ⟨os, len, at_D, at_c, same⟩
      obtain ⟨n, rfl⟩ : ∃ n, x = V.int n := by
        rw [List.getElem?_map] at at_i
        cases e : ms[i]? with
        | none => rw [e] at at_i; cases at_i
        | some n => rw [e] at at_i; exact ⟨n, (Option.some.inj at_i).symm⟩
      have lt : i < ms.length := by
        have := (List.getElem?_eq_some_iff.mp at_i).1
        rwa [List.length_map] at this
      refine ⟨rfl, _, rfl, n, rfl, _, at_D, ?_, os ++ [if n < 0 then -n else n], by simp [len], ?_, ?_, ?_⟩
      · rw [List.length_map]
        exact small1000 (by omega)
      · rw [upd_same, List.map_append]
        rfl
      · rw [upd_ne cD]
        exact at_c
      · refine fun p o e => ?_
        have e1 := same p o e
        rw [upd_ne (ne_of_none e (s1.free nD))]
        exact e1
    · rintro G ⟨os, len, at_D, at_c, same⟩
      refine ⟨len_line (by show 4 ≤ 100000; decide), fun p np => ?_⟩
      refine q _ p (same.trans (same_new np)) (same.free np) ⟨0, 1234567891, 0, D, os, upd_same, ?_, ?_⟩
      · rw [upd_ne (ne_of_none at_D np)]
        exact at_D
      · rw [List.length_map] at len
        omega

/-! ### a draw -/
def spTake : Sp := fun vs H Q _ => ∃ (b : Addr) (many : Int), vs = [.ref b, .int many] ∧ BagAt H b ∧ 0 < many ∧ many < 1073741824 ∧ ∀ H' v, But b H H' → BagAt H' b → 0 ≤ v → v < many → Q (.int v) H'
theorem at4 (a b c d : V) : atI [a, b, c, d] 0 = some a ∧ atI [a, b, c, d] 1 = some b ∧ atI [a, b, c, d] 2 = some c ∧ atI [a, b, c, d] 3 = some d := ⟨rfl, rfl, rfl, rfl⟩
theorem bag_apart {H : Hp} {b c : Addr} {x y z : Int} {ns : List Int} (hb : H b = some (.lst [.int x, .int y, .int z, .ref c])) (hc : H c = some (.lst (ns.map V.int))) : c ≠ b := by
  refine ne_of hc hb fun e => ?_
  have e1 : ns.map V.int = [.int x, .int y, .int z, .ref c] := by injection e
  have m : V.ref c ∈ ns.map V.int := by
    rw [e1]
    simp
  obtain ⟨n, _, no⟩ := List.mem_map.mp m
  cases no
theorem first_int (ms : List Int) : ∃ k, atI (ms.map V.int ++ [V.int 0]) 0 = some (V.int k) := by
  cases ms with
  | nil => exact ⟨0, rfl⟩
  | cons m ms => exact ⟨m, atI_nat (j := 0) rfl⟩
theorem ok_take {f : Addr} {fd : FuncData} (F : Fun K "_law_take" "_law_take" sTake f fd) (mi : mg "int" = none) : FnOk P w K mg base CX0 1 f fd ["bag", "many"] spTake := by
  refine F.ok scTake (fun vs H Q E h => ?_) (fun cdv A outer s H vs Q E hr h => ?_)
  · obtain ⟨b, m, rfl, _⟩ := h
    rfl
  · obtain ⟨b, many, rfl, ⟨x, y, z, c, ns, at_b, at_c, few⟩, pos, low, q⟩ := h
    have nd := scTake.nd
    refine ⟨_, pss_cut (ps_if (pt_cmpR op_eq (pe_ix ix_list (pv 0) pe_int (fun _ _ => rfl)) pe_int (nomark _))
        (pss_cons (ps_set (i := 2) nd rfl (Or.inl rfl) (pe_ix ix_list (pe_op op_cat (pe_slice sl_list (pe_ix ix_list (pv 0) pe_int (fun _ _ => rfl)) (po_some (pe_ix ix_list (pv 0) pe_int (fun _ _ => rfl))) po_none) (pe_lst (pa_cons pe_int pa_nil))) pe_int (fun _ _ => rfl)))
        (pss_cons (ps_augS (pv 0) pe_int get_list pe_int ip_add set_list)
        (pss_cut (ps_if (pt_cmpR op_ge (pv 2) (pe_op op_pow pe_int pe_int) (nomark _)) (pss_one (ps_asg (pv 2) (pg_sub (pv 0) pe_int set_list))) pss_nil)
        (pss_cons (ps_set (i := 3) nd rfl (Or.inl rfl) (pe_op op_add (pe_op op_add (pe_op op_mul (pe_ix ix_list (pv 0) pe_int (fun _ _ => rfl)) pe_int)
            (pe_op op_mod (pe_callTy call_int1 (by rfl) mi (by decide +kernel) (pa_cons (pv 2) pa_nil)) pe_int)) (pe_op op_mul pe_int (pe_ix ix_list (pv 0) pe_int (fun _ _ => rfl)))))
        (pss_one (ps_asg (pe_op op_mod (pe_callTy call_int1 (by rfl) mi (by decide +kernel) (pa_cons (pv 3) pa_nil)) pe_int) (pg_sub (pv 0) pe_int set_list)))))))
        pss_nil)
      (pss_cons (ps_if (pt_cmpR op_gt (pe_ix ix_list (pv 0) pe_int (fun _ _ => rfl)) pe_int (nomark _))
        (pss_cons (ps_set (i := 4) nd rfl (Or.inl rfl) (pe_op op_mod (pe_callTy call_int1 (by rfl) mi (by decide +kernel) (pa_cons (pe_ix ix_list (pv 0) pe_int (fun _ _ => rfl)) pa_nil)) (pv 1)))
        (pss_cons (ps_asg (pe_op op_fdiv (pe_callTy call_int1 (by rfl) mi (by decide +kernel) (pa_cons (pe_ix ix_list (pv 0) pe_int (fun _ _ => rfl)) pa_nil)) (pv 1)) (pg_sub (pv 0) pe_int set_list))
        (pss_one (ps_ret (pv 4))))) pss_nil)
      (pss_cons (ps_set (i := 5) nd rfl (Or.inl rfl) (pe_op op_mod (pe_callTy call_int1 (by rfl) mi (by decide +kernel) (pa_cons (pe_op op_mul (pe_op op_add (pe_ix ix_list (pv 0) pe_int (fun _ _ => rfl)) pe_int) pe_int) pa_nil)) pe_int))
      (pss_cons (ps_set (i := 6) nd rfl (Or.inl rfl) (pe_op op_mod (pe_callTy call_int1 (by rfl) mi (by decide +kernel) (pa_cons (pe_op op_mul (pe_op op_mod (pe_callTy call_int1 (by rfl) mi (by decide +kernel) (pa_cons (pe_op op_mul (pv 5) (pv 5)) pa_nil)) pe_int) pe_int) pa_nil)) pe_int))
      (pss_one (ps_ret (pe_op op_mod (pe_callTy call_int1 (by rfl) mi (by decide +kernel) (pa_cons (pe_op op_fdiv (pv 6) pe_int) pa_nil)) (pv 1))))))), ?_⟩
    have cb : c ≠ b := bag_apart at_b at_c
    refine ⟨fun σ' H' => ∃ (x y z : Int) (s2 s3 s4 s5 s6 : Option V), σ' = [some (.ref b), some (.int many), s2, s3, s4, s5, s6] ∧ H' b = some (.lst [.int x, .int y, .int z, .ref c]) ∧ But b H H', ?_, ?_⟩
    · -- if bag[0] == 0
      refine ⟨_, rfl, b, _, 0, _, rfl, rfl, SqL.of at_b, rfl, rfl, _, rfl, ?_⟩
      refine ite2 (fun _ => ?_) (fun _ => ⟨x, y, z, none, none, none, none, none, rfl, at_b, But.refl b H⟩)
      obtain ⟨ms, cut, small⟩ := cut_ints ns (some z) none
      obtain ⟨k, first⟩ := first_int ms
      refine ⟨_, rfl, b, _, 3, _, rfl, rfl, SqL.of at_b, rfl, _, rfl, b, _, 2, _, rfl, rfl, SqL.of at_b, rfl, z, rfl, c, ns.map V.int, rfl, SqL.of at_c, fun p np => ?_⟩
      rw [cut]
      refine ⟨len_line (by show 1 ≤ 100000; decide), fun p2 np2 => ?_⟩
      have pp : p ≠ p2 := ne_of_none (upd_same (H := H) (a := p)) np2
      refine ⟨p, p2, ms.map V.int, _, rfl, rfl, by rw [upd_ne pp, upd_same], upd_same, len_line (by simp; omega), fun p3 np3 => ?_⟩
      refine ⟨p3, _, 0, .int k, rfl, rfl, SqL.of upd_same, first, ?_⟩
      have s3 := ((same_new (o := .lst (ms.map V.int)) np).trans (same_new (o := .lst [V.int 0]) np2)).trans (same_new (o := .lst (ms.map V.int ++ [V.int 0])) np3)
      revert s3
      generalize upd (upd (upd H p (.lst (ms.map V.int))) p2 (.lst [V.int 0])) p3 (.lst (ms.map V.int ++ [V.int 0])) = H3
      intro s3
      -- bag[2] += 1
      refine ⟨_, rfl, b, _, 2, _, rfl, rfl, SqL.of (s3 _ _ at_b), rfl, z, 1, rfl, rfl, b, _, 2, 2, rfl, rfl, s3 _ _ at_b, rfl, ?_⟩
      refine ⟨fun σ' H' => ∃ x : Int, σ' = [some (.ref b), some (.int many), some (.int k), none, none, none, none] ∧ H' b = some (.lst [.int x, .int y, .int (z + 1), .ref c]) ∧ But b H H', ?_, ?_⟩
      · refine ⟨_, rfl, 10, 18, rfl, rfl, ⟨by decide, by decide, by decide⟩, _, _, rfl, rfl, _, rfl, ?_⟩
        refine ite2 (fun _ => ?_) (fun _ => ⟨x, rfl, upd_same, (But.of s3).upd at_b⟩)
        exact ⟨_, rfl, _, rfl, b, _, 0, 0, rfl, rfl, upd_same, rfl, k, rfl, upd_same, ((But.of s3).upd (i' := x) (j' := y) (k' := z + 1) at_b).upd at_b⟩
      · rintro _ H4 ⟨x4, rfl, at4b, but4⟩
        refine ⟨_, rfl, b, _, 1, _, rfl, rfl, SqL.of at4b, rfl, _, _, rfl, rfl, .inr ⟨by decide, by decide⟩, _, rfl, .inl ⟨k, rfl, ?_⟩⟩
        refine ⟨_, _, rfl, rfl, (by show (0 : Int) < 2147483647; decide), _, _, rfl, rfl, ?_⟩
        refine ⟨_, rfl, b, _, 2, _, rfl, rfl, SqL.of at4b, rfl, _, _, rfl, rfl, .inl ⟨by decide, by decide⟩, _, _, rfl, rfl, ?_⟩
        refine ⟨_, rfl, .inl ⟨_, rfl, ?_⟩⟩
        refine ⟨_, _, rfl, rfl, (by show (0 : Int) < 2147483647; decide), _, rfl, b, _, 1, 1, rfl, rfl, at4b, rfl, ?_⟩
        exact ⟨x4, _, z + 1, _, _, none, none, none, rfl, upd_same, but4.upd at_b⟩
    · rintro _ H1 ⟨x1, y1, z1, s2, s3, s4, s5, s6, rfl, at1, but1⟩
      have at_c1 : ∀ {G : Hp}, But b H G → G c = some (.lst (ns.map V.int)) := fun h => h.1 _ _ cb at_c
      refine ⟨_, rfl, b, _, 0, _, rfl, rfl, SqL.of at1, rfl, _, _, rfl, rfl, _, rfl, ?_⟩
      refine ite2 (fun _ => ?_) (fun _ => ?_)
      · refine ⟨_, rfl, b, _, 0, _, rfl, rfl, SqL.of at1, rfl, .inl ⟨_, rfl, _, rfl, _, _, rfl, rfl, pos, ?_⟩⟩
        refine ⟨_, rfl, b, _, 0, _, rfl, rfl, SqL.of at1, rfl, .inl ⟨_, rfl, _, rfl, _, _, rfl, rfl, ⟨pos, low⟩, ?_⟩⟩
        refine ⟨_, rfl, b, _, 0, 0, rfl, rfl, at1, rfl, _, rfl, ?_⟩
        exact q _ _ (but1.upd at_b) ⟨_, y1, z1, c, ns, upd_same, at_c1 (but1.upd (i' := x1 / many) (j' := y1) (k' := z1) at_b), few⟩ (Int.emod_nonneg _ (by omega)) (Int.emod_lt_of_pos _ pos)
      · refine ⟨_, rfl, b, _, 1, _, rfl, rfl, SqL.of at1, rfl, _, _, rfl, rfl, _, _, rfl, rfl, .inr ⟨by decide, by decide⟩, .inl ⟨_, rfl, ?_⟩⟩
        have p1 : (0 : Int) < 1000000007 := by decide
        have p2 : (0 : Int) < 998244353 := by decide
        refine ⟨_, _, rfl, rfl, p1, ?_⟩
        have l1 := Int.emod_nonneg ((y1 + 1) * 39373) (b := 1000000007) (by decide)
        have l2 := Int.emod_lt_of_pos ((y1 + 1) * 39373) p1
        refine ⟨_, rfl, _, rfl, _, _, rfl, rfl, .inl ⟨by omega, by omega⟩, .inl ⟨_, rfl, _, _, rfl, rfl, p2, _, _, rfl, rfl, .inr ⟨by decide, by decide⟩, .inl ⟨_, rfl, _, _, rfl, rfl, p2, ?_⟩⟩⟩
        refine ⟨_, rfl, _, _, rfl, rfl, ⟨by decide, by decide⟩, .inl ⟨_, rfl, _, rfl, _, _, rfl, rfl, pos, ?_⟩⟩
        exact q _ _ but1 ⟨x1, y1, z1, c, ns, at1, at_c1 but1, few⟩ (Int.emod_nonneg _ (by omega)) (Int.emod_lt_of_pos _ pos)

/-! ### where a def stands -/
structure At (K : PySem.W.Frag) (mg : Str → Option Value) (x : Str) (st : Stmt) (ps : List Str) (f : Addr) (fd : FuncData) : Prop where
  fn : Fun K x x st f fd
  b : Binds K fd ps []
  g : mg x = some (.ref f)
theorem But.rd {b p : Addr} {H H' : Hp} {u : HO} (x : But b H H') (n : p ≠ b) (h : Rd H p u) : Rd H' p u := by
  rcases h with h | ⟨o, h⟩
  · exact .inl (x.1 _ _ n h)
  · exact .inr ⟨o, x.1 _ _ n h⟩
theorem But.l {b p : Addr} {H H' : Hp} {xs : List V} (x : But b H H') (n : p ≠ b) (h : SqL K H p xs) : SqL K H' p xs := by
  rcases h with h | h
  · exact .inl (x.rd n h)
  · exact .inr h
theorem But.t {b p : Addr} {H H' : Hp} {xs : List V} (x : But b H H') (n : p ≠ b) (h : SqT K H p xs) : SqT K H' p xs := by
  rcases h with h | h
  · exact .inl (x.rd n h)
  · exact .inr h
/-! ### one of some things -/
def spSome (K : PySem.W.Frag) : Sp := fun vs H Q _ => ∃ (b p : Addr) (xs : List V), vs = [.ref b, .ref p] ∧ BagAt H b ∧ (SqL K H p xs ∨ SqT K H p xs) ∧ p ≠ b ∧ 0 < xs.length ∧ xs.length < 1073741824 ∧
  ∀ H' v, v ∈ xs → But b H H' → BagAt H' b → Q v H'
theorem ok_some {f fT : Addr} {fd fdT : FuncData} (F : At K mg "_law_some" sSome ["bag", "things"] f fd) (T : At K mg "_law_take" sTake ["bag", "many"] fT fdT) (mi : mg "int" = none) (ml : mg "len" = none) :
    FnOk P w K mg base CX0 2 f fd ["bag", "things"] (spSome K) := by
  have GT : FnOk P w K mg base CX0 1 fT fdT ["bag", "many"] spTake := ok_take T.fn mi
  refine F.fn.ok scSome (fun vs H Q E h => ?_) (fun cdv A outer s H vs Q E hr h => ?_)
  · obtain ⟨b, p, xs, rfl, _⟩ := h
    rfl
  · obtain ⟨b, p, xs, rfl, bag, there, apart, pos, low, q⟩ := h
    refine ⟨_, pss_one (ps_ret (pe_ix (ix_list.or ix_tup) (pv 1) (pe_call GT hr (by rfl) T.g T.fn.kp T.b .nil pass0 (pa_cons (pv 0) (pa_cons (pe_callB call_len_seq (by rfl) ml PySem.boot_len (pa_cons (pv 1) pa_nil)) pa_nil))) (fun _ _ => rfl))), ?_⟩
    refine ⟨_, rfl, _, rfl, _, rfl, p, xs, rfl, there, b, _, rfl, bag, by omega, by omega, fun H' v but bag' lo hi => ?_⟩
    obtain ⟨n, rfl⟩ := Int.eq_ofNat_of_zero_le lo
    have lt : n < xs.length := by omega
    rcases there with t | t
    · exact .inl ⟨p, xs, _, xs[n], rfl, rfl, but.l apart t, atI_nat (by simp [lt]), q H' _ (List.getElem_mem lt) but bag'⟩
    · exact .inr ⟨p, xs, _, xs[n], rfl, rfl, but.t apart t, atI_nat (by simp [lt]), q H' _ (List.getElem_mem lt) but bag'⟩
/-! ### alike -/
theorem scAlike : FnScope ["found", "due"] ["found", "due"] (defScope sAlike) := ⟨rfl, rfl, rfl, by decide +kernel, rfl, by decide +kernel, by decide +kernel⟩
def spAlike (K : PySem.W.Frag) : Sp := fun vs H Q _ => ∃ (x y : V) (d : PyData), vs = [x, y] ∧ Dat K H x d ∧ Dat K H y d ∧ Shows d ∧ d.depth ≤ 60 ∧ Q (.bl true) H
theorem ok_alike {f : Addr} {fd : FuncData} (F : At K mg "_law_alike" sAlike ["found", "due"] f fd) (mr : mg "repr" = none) : FnG P w K mg base 1 f fd ["found", "due"] (spAlike K) := by
  refine okG F.fn scAlike (fun vs H Q E h => ?_) (fun cdv A outer s H vs Q E hr gd h => ?_)
  · obtain ⟨x, y, d, rfl, _⟩ := h
    rfl
  · obtain ⟨x, y, d, rfl, dx, dy, sh, deep, q⟩ := h
    refine ⟨_, pss_one (ps_ret (pe_and (pe_cmpR (op_eqDat hr.units) (pv 0) (pv 1) (nomark _)) (pe_one (pe_cmpR op_eq (pe_callB (call_reprD hr.units gd) (by rfl) mr (by decide +kernel) (pa_cons (pv 0) pa_nil))
      (pe_callB (call_reprD hr.units gd) (by rfl) mr (by decide +kernel) (pa_cons (pv 1) pa_nil)) (nomark _))))), ?_⟩
    refine ⟨_, rfl, _, rfl, d, dx, dy, deep, _, rfl, iteT ⟨_, rfl, x, d, rfl, dx, sh, deep, _, rfl, y, d, rfl, dy, sh, deep, rfl, ?_⟩⟩
    have e : decide (V.str d.shown = V.str d.shown) = true := decide_eq_true rfl
    rw [e]
    exact q
end
end K29

namespace K29
open PySem PySem.Spec PyProof.Rows L2 Vd Evl
theorem But.free {b p : Addr} {H H' : Hp} (x : But b H H') (bag : BagAt H' b) (n : H' p = none) : p ≠ b ∧ H p = none := by
  obtain ⟨_, _, _, _, _, e, _⟩ := bag
  have ne : p ≠ b := fun z => by
    rw [z, e] at n
    cases n
  refine ⟨ne, ?_⟩
  cases e2 : H p with
  | none => rfl
  | some o =>
    rw [x.1 p o ne e2] at n
    cases n
theorem BagAt.new {H : Hp} {b p : Addr} {o : HO} (x : BagAt H b) (n : H p = none) : BagAt (upd H p o) b := by
  obtain ⟨x, y, z, c, ns, e1, e2, few⟩ := x
  exact ⟨x, y, z, c, ns, same_new n _ _ e1, same_new n _ _ e2, few⟩
theorem But.put {b q : Addr} {H G : Hp} {o : HO} (x : But b H G) (q0 : H q = none) (qb : q ≠ b) : But b H (L2.upd G q o) := ⟨fun p u ne e => by
  rw [upd_ne (ne_of_none e q0)]
  exact x.1 p u ne e, fun i j k c e => by
  obtain ⟨i', j', k', e'⟩ := x.2 i j k c e
  exact ⟨i', j', k', by rw [upd_ne qb.symm]; exact e'⟩⟩
theorem BagAt.but {H G : Hp} {b : Addr} (h : BagAt H b) (s : But b H G) : BagAt G b := by
  obtain ⟨x, y, z, c, ns, e1, e2, e3⟩ := h
  obtain ⟨x', y', z', e⟩ := s.2 _ _ _ _ e1
  exact ⟨x', y', z', c, ns, e, s.1 _ _ (bag_apart e1 e2) e2, e3⟩
/-- data beside the bag -/
def Dt (K : PySem.W.Frag) (b : Addr) (H : Hp) (v : V) (d : PyData) : Prop := Dat K (del H b) v d
theorem del_but {b : Addr} {H H' : Hp} (s : But b H H') : ∀ p o, del H b p = some o → del H' b p = some o := fun p o e => by
  by_cases ne : p = b
  · rw [ne, del_same] at e
    cases e
  · rw [del_ne ne] at e ⊢
    exact s.1 p o ne e
theorem Dt.but {K : PySem.W.Frag} {b : Addr} {H H' : Hp} {v : V} {d : PyData} (s : But b H H') (h : Dt K b H v d) : Dt K b H' v d := Dat.up (del_but s) h
theorem Dt.dat {K : PySem.W.Frag} {b : Addr} {H : Hp} {v : V} {d : PyData} (h : Dt K b H v d) : Dat K H v d := Dat.up (fun p o e => by
  by_cases ne : p = b
  · rw [ne, del_same] at e
    cases e
  · rwa [del_ne ne] at e) h
section
variable {P : Program} {w : World} {K : PySem.W.Frag} {mg : Str → Option Value} {base : Heap}
/-! ### a list in a drawn order -/
abbrev sMixed : Stmt := topS 19
theorem scMixed : FnScope ["bag", "things", "found", "thing"] ["bag", "things"] (defScope sMixed) := ⟨rfl, rfl, rfl, by decide +kernel, rfl, by decide +kernel, by decide +kernel⟩
def spMixed (K : PySem.W.Frag) : Sp := fun vs H Q _ => ∃ (b p : Addr) (xs : List V), vs = [.ref b, .ref p] ∧ BagAt H b ∧ SqL K H p xs ∧ p ≠ b ∧ xs.length ≤ 1000 ∧
  ∀ H' q ys, But b H H' → BagAt H' b → H q = none → q ≠ b → H' q = some (.lst ys) → ys.Perm xs → Q (.ref q) H'
theorem ok_mixed {f fT : Addr} {fd fdT : FuncData} (F : At K mg "_law_mixed" sMixed ["bag", "things"] f fd) (T : At K mg "_law_take" sTake ["bag", "many"] fT fdT) (mi : mg "int" = none) (ml : mg "len" = none) :
    FnOk P w K mg base CX0 2 f fd ["bag", "things"] (spMixed K) := by
  have GT : FnOk P w K mg base CX0 1 fT fdT ["bag", "many"] spTake := ok_take T.fn mi
  refine F.fn.ok scMixed (fun vs H Q E h => ?_) (fun cdv A outer s H vs Q E hr h => ?_)
  · obtain ⟨b, p, xs, rfl, _⟩ := h
    rfl
  · obtain ⟨b, p, xs, rfl, bag, there, apart, few, fin⟩ := h
    have nd := scMixed.nd
    refine ⟨_, pss_cons (ps_set (i := 2) nd rfl (Or.inl rfl) (pe_lst pa_nil))
      (pss_cons (ps_for PassesOwn.never rfl (pi_list (pv 1)) (pg_name (i := 3) nd rfl (Or.inl rfl))
        (pss_one (ps_expr (pe_bm PySem.F.plainAttrs_list PySem.F.slot_list_insert PySem.F.type_list_insert mt_insert (pv 2)
          (pa_cons (pe_call GT hr (by rfl) T.g T.fn.kp T.b .nil pass0 (pa_cons (pv 0) (pa_cons (pe_op op_add (pe_callB call_len_seq (by rfl) ml PySem.boot_len (pa_cons (pv 2) pa_nil)) pe_int) pa_nil))) (pa_cons (pv 3) pa_nil))))))
      (pss_one (ps_ret (pv 2)))), ?_⟩
    refine ⟨Nat.zero_le _, fun q nq => ?_⟩
    obtain ⟨qb, q0⟩ := But.free (But.refl b H) bag nq
    refine ⟨_, rfl, p, rfl, ⟨_, (But.of (same_new nq)).l apart there⟩, for_list (K := K) (a := p) (xs := xs) (fun i σ' G => ∃ (ys : List V) (v3 : Option V), σ' = ([some (.ref b), some (.ref p), some (.ref q), v3] : L2.St) ∧
      G q = some (.lst ys) ∧ ys.Perm (xs.take i) ∧ But b H G) ⟨[], none, rfl, upd_same, by simp, But.of (same_new nq)⟩
      (fun i σ' G _ ⟨_, _, _, _, _, s⟩ => s.l apart there) ?_ ?_⟩
    · rintro i x _ G at_i ⟨ys, v3, rfl, at_q, perm, s⟩
      have bag' := bag.but s
      have lt : i < xs.length := (List.getElem?_eq_some_iff.mp at_i).1
      have len : ys.length = i := by rw [perm.length_eq, List.length_take]; omega
      refine ⟨_, rfl, .inl ⟨rfl, _, SqL.of at_q⟩, ?_⟩
      refine ⟨_, rfl, _, rfl, q, ys, rfl, .inl (SqL.of at_q), _, _, rfl, rfl, b, _, rfl, bag', by omega, by omega, fun G1 v but1 bag1 v0 v1 => ?_⟩
      have at_q1 := but1.1 _ _ qb at_q
      refine ⟨_, rfl, q, ys, v, x, rfl, rfl, at_q1, small1000 (by omega), v0, by omega, ?_⟩
      have e1 : xs.take (i + 1) = xs.take i ++ [x] := by
        rw [List.take_succ, at_i]
        rfl
      refine ⟨_, _, rfl, upd_same, ?_, (s.trans but1).put q0 qb⟩
      · rw [e1]
        have e2 : (ys.take v.toNat ++ [x] ++ ys.drop v.toNat).Perm (ys ++ [x]) := by
          have e3 : ys.take v.toNat ++ ys.drop v.toNat = ys := List.take_append_drop _ _
          have e4 : (ys.take v.toNat ++ [x] ++ ys.drop v.toNat).Perm (ys.take v.toNat ++ ys.drop v.toNat ++ [x]) := by
            rw [List.append_assoc, List.append_assoc]
            exact List.Perm.append_left _ List.perm_append_comm
          rwa [e3] at e4
        exact e2.trans (perm.append_right _)
    · rintro _ G ⟨ys, v3, rfl, at_q, perm, s⟩
      rw [List.take_length] at perm
      exact ⟨_, rfl, fin G q ys s (bag.but s) q0 qb at_q perm⟩
end
end K29

namespace K29
open PySem PySem.Spec PyProof.Rows L2 Vd Evl
theorem DatAll.snoc2 {K : PySem.W.Frag} {H : Hp} {v : V} {d : PyData} {vs : List V} {ds : List PyData} (a : DatAll K H vs ds) (h : Dat K H v d) : DatAll K H (vs ++ [v]) (ds ++ [d]) := DatAll.snoc h a
theorem dats_len {K : PySem.W.Frag} {G : Hp} : ∀ {vs : List V} {ds : List PyData}, DatAll K G vs ds → vs.length = ds.length
  | _, _, .nil => rfl
  | _, _, .cons _ b => by rw [List.length_cons, List.length_cons, dats_len b]
theorem DatAll.but {K : PySem.W.Frag} {b : Addr} {H H' : Hp} {vs : List V} {ds : List PyData} (s : But b H H') (h : DatAll K (del H b) vs ds) : DatAll K (del H' b) vs ds := DatAll.up (del_but s) h
/-- all but the bag and one list that is being filled -/
def del2 (G : Hp) (b D : Addr) : Hp := del (del G b) D
theorem del2_sub {G : Hp} {b D : Addr} : ∀ p o, del2 G b D p = some o → del G b p = some o := fun p o e => by
  by_cases ne : p = D
  · rw [ne] at e
    rw [show del2 G b D D = none from del_same] at e
    cases e
  · rwa [show del2 G b D p = del G b p from del_ne ne] at e
theorem del2_up {G G' : Hp} {b D : Addr} {o' : HO} (s : But b G G') (Db : D ≠ b) : ∀ p o, del2 G b D p = some o → del2 (upd G' D o') b D p = some o := fun p o e => by
  by_cases nD : p = D
  · rw [nD] at e
    rw [show del2 G b D D = none from del_same] at e
    cases e
  · have e1 := del2_sub p o e
    have e2 := del_but s p o e1
    rw [show del2 (upd G' D o') b D p = del (upd G' D o') b p from del_ne nD]
    by_cases nb : p = b
    · rw [nb, del_same] at e2
      cases e2
    · rw [del_ne nb] at e2 ⊢
      rw [upd_ne nD]
      exact e2
theorem del2_at {G : Hp} {b D p : Addr} {o : HO} (pb : p ≠ b) (pD : p ≠ D) (e : G p = some o) : del2 G b D p = some o := by
  rw [show del2 G b D p = del G b p from del_ne pD, del_ne pb]
  exact e
/-- pairs of ints as data -/
def pairD (x : Int × Int) : PyData := .tuple [.int x.1, .int x.2]
def pursesD (ps : List (Int × Int)) : PyData := .tuple (ps.map pairD)
def PurseOk (most : Int) (x : Int × Int) : Prop := 1 ≤ x.1 ∧ x.1 ≤ most ∧ 0 ≤ x.2 ∧ x.2 ≤ 2
theorem dt_at {b p : Addr} {H : Hp} {o : HO} (ne : p ≠ b) (e : H p = some o) : del H b p = some o := by
  rw [del_ne ne]
  exact e
section
variable {P : Program} {w : World} {K : PySem.W.Frag} {mg : Str → Option Value} {base : Heap}
abbrev sFirst : Stmt := topS 24
abbrev sPur : Stmt := topS 23
abbrev sNames : Stmt := topS 22
abbrev sIsInt : Stmt := topS 21
theorem scFirst : FnScope ["bag", "room"] ["bag", "room"] (defScope sFirst) := ⟨rfl, rfl, rfl, by decide +kernel, rfl, by decide +kernel, by decide +kernel⟩
theorem scPur : FnScope ["bag", "most", "many", "turn"] ["bag", "most"] (defScope sPur) := ⟨rfl, rfl, rfl, by decide +kernel, rfl, by decide +kernel, by decide +kernel⟩
def spFirst : Sp := fun vs H Q _ => ∃ (b : Addr) (room : Int), vs = [.ref b, .int room] ∧ BagAt H b ∧ 0 ≤ room ∧ room < 1000000 ∧ ∀ H' i, But b H H' → 0 ≤ i → i ≤ room → Q (.int i) H'
section
variable {fT fS : Addr} {fdT fdS : FuncData} (T : At K mg "_law_take" sTake ["bag", "many"] fT fdT) (S : At K mg "_law_some" sSome ["bag", "things"] fS fdS) (mi : mg "int" = none) (ml : mg "len" = none)
include T S mi ml
theorem ok_first {f : Addr} {fd : FuncData} (F : At K mg "_law_first" sFirst ["bag", "room"] f fd) : FnOk P w K mg base CX0 3 f fd ["bag", "room"] spFirst := by
  have GT : FnOk P w K mg base CX0 1 fT fdT ["bag", "many"] spTake := ok_take T.fn mi
  have GS : FnOk P w K mg base CX0 2 fS fdS ["bag", "things"] (spSome K) := ok_some S T mi ml
  refine F.fn.ok scFirst (fun vs H Q E h => ?_) (fun cdv A outer s H vs Q E hr h => ?_)
  · obtain ⟨b, room, rfl, _⟩ := h
    rfl
  · obtain ⟨b, room, rfl, bag, r0, r1, fin⟩ := h
    have nd := scFirst.nd
    have hr1 : Room 1 _ := hr.mono (by decide)
    refine ⟨_, pss_one (ps_ret (pe_call GS hr (by rfl) S.g S.fn.kp S.b .nil pass0 (pa_cons (pv 0) (pa_cons (pe_lst (pa_cons (pv 1) (pa_cons (pv 1) (pa_cons pe_int
      (pa_cons (pe_call GT hr1 (by rfl) T.g T.fn.kp T.b .nil pass0 (pa_cons (pv 0) (pa_cons (pe_op op_add (pv 1) pe_int) pa_nil))) pa_nil))))) pa_nil)))), ?_⟩
    refine ⟨_, rfl, _, rfl, _, rfl, _, rfl, _, rfl, _, _, rfl, rfl, b, _, rfl, bag, by omega, by omega, fun G1 v but1 bag1 v0 v1 => ?_⟩
    refine ⟨len_line (by show 4 ≤ 100000; decide), fun p np => ?_⟩
    have pb := (But.free (But.refl b G1) bag1 np).1
    refine ⟨b, p, _, rfl, bag1.new np, .inl (SqL.of upd_same), pb, by show 0 < 4; decide, by show 4 < 1073741824; decide, fun G2 x mem but2 bag2 => ?_⟩
    obtain ⟨i, rfl, i0, i1⟩ : ∃ i, x = V.int i ∧ 0 ≤ i ∧ i ≤ room := by
      simp only [List.mem_cons, List.not_mem_nil, or_false] at mem
      rcases mem with e | e | e | e
      · exact ⟨_, e, r0, by omega⟩
      · exact ⟨_, e, r0, by omega⟩
      · exact ⟨_, e, by omega, r0⟩
      · exact ⟨_, e, v0, by omega⟩
    exact fin G2 i ((but1.new np).trans but2) i0 i1
def spPur (K : PySem.W.Frag) : Sp := fun vs H Q _ => ∃ (b : Addr) (most : Int), vs = [.ref b, .int most] ∧ BagAt H b ∧ 1 ≤ most ∧ most < 1000000 ∧
  ∀ H' p ps, But b H H' → H p = none → Dt K b H' (.ref p) (pursesD ps) → ps.length ≤ 2 → (∀ x ∈ ps, PurseOk most x) → Q (.ref p) H'
theorem ok_pur {f : Addr} {fd : FuncData} (F : At K mg "_law_purses" sPur ["bag", "most"] f fd) (mt : mg "tuple" = none) (mr : mg "range" = none) : FnOk P w K mg base CX0 3 f fd ["bag", "most"] (spPur K) := by
  have GT : FnOk P w K mg base CX0 1 fT fdT ["bag", "many"] spTake := ok_take T.fn mi
  have GS : FnOk P w K mg base CX0 2 fS fdS ["bag", "things"] (spSome K) := ok_some S T mi ml
  have bt : bootBuiltins "tuple" = some (.type "tuple") := by decide +kernel
  refine F.fn.ok scPur (fun vs H Q E h => ?_) (fun cdv A outer s H vs Q E hr h => ?_)
  · obtain ⟨b, most, rfl, _⟩ := h
    rfl
  · obtain ⟨b, most, rfl, bag, m0, m1, fin⟩ := h
    have nd := scPur.nd
    have hr1 : Room 1 _ := hr.mono (by decide)
    refine ⟨_, pss_cut (ps_set (i := 2) nd rfl (Or.inl rfl) (pe_call GS hr (by rfl) S.g S.fn.kp S.b .nil pass0 (pa_cons (pv 0) (pa_cons (pe_lst (pa_cons pe_int (pa_cons pe_int (pa_cons pe_int (pa_cons pe_int (pa_cons pe_int pa_nil)))))) pa_nil))))
      (pss_one (ps_ret (pe_callTy call_tuple_of (by rfl) mt bt (pa_cons
        (pe_lc (own := [("turn", 3)]) (g := gName 3) (tt := tYes) rfl nd (pi_range1 (by rfl) mr (pa_cons (pv 2) pa_nil)) (blkOk_by (N := ["bag", "most", "many", "turn"]) (sc := defScope sPur) (by decide +kernel))
          (fun _ _ _ _ _ => pg_name (i := 3) nd rfl (Or.inl rfl)) (fun _ _ _ _ _ => pts_nil)
          (fun _ _ _ _ _ => pe_tup (pa_cons (pe_op op_add pe_int (pe_call GT hr1 (by rfl) T.g T.fn.kp T.b .nil pass0 (pa_cons (pv 0) (pa_cons (pv 1) pa_nil))))
            (pa_cons (pe_call GS hr (by rfl) S.g S.fn.kp S.b .nil pass0 (pa_cons (pv 0) (pa_cons (pe_lst (pa_cons pe_int (pa_cons pe_int (pa_cons pe_int (pa_cons pe_int (pa_cons pe_int pa_nil)))))) pa_nil))) pa_nil)))) pa_nil)))), ?_⟩
    refine ⟨fun σ' G => ∃ n : Nat, σ' = ([some (.ref b), some (.int most), some (.int n), none] : L2.St) ∧ n ≤ 2 ∧ But b H G, ?_, ?_⟩
    · refine ⟨_, rfl, len_line (by show 5 ≤ 100000; decide), fun p np => ?_⟩
      have pb := (But.free (But.refl b H) bag np).1
      refine ⟨b, p, _, rfl, bag.new np, .inl (SqL.of upd_same), pb, by show 0 < 5; decide, by show 5 < 1073741824; decide, fun G2 x mem but2 bag2 => ?_⟩
      have s2 := ((But.refl b H).new np).trans but2
      simp only [List.mem_cons, List.not_mem_nil, or_false] at mem
      rcases mem with e | e | e | e | e <;> subst e
      · exact ⟨1, rfl, by decide, s2⟩
      · exact ⟨0, rfl, by decide, s2⟩
      · exact ⟨1, rfl, by decide, s2⟩
      · exact ⟨1, rfl, by decide, s2⟩
      · exact ⟨2, rfl, by decide, s2⟩
    rintro _ G ⟨n, rfl, n2, sG⟩
    have bagG := bag.but sG
    refine ⟨_, rfl, n, rfl, by omega, by omega, fun D nD => ?_⟩
    obtain ⟨Db, D0⟩ := But.free sG bagG nD
    rw [Int.toNat_natCast]
    refine lc_range (lo := 0) (n := n) (fun i G' => ∃ (xs : List V) (ps : List (Int × Int)), G' D = some (.lst xs) ∧ But b H G' ∧ DatAll K (del2 G' b D) xs (ps.map pairD) ∧ ps.length = i ∧ ∀ x ∈ ps, PurseOk most x) ?_ ?_ ?_
    · exact ⟨[], [], upd_same, sG.new nD, .nil, rfl, fun x m => nomatch m⟩
    · rintro i G' lt ⟨xs, ps, at_D, sG', all, len, each⟩
      have bag' := bag.but sG'
      have lenx : xs.length = i := by
        rw [dats_len all, List.length_map, len]
      refine ⟨rfl, _, rfl, _, rfl, b, most, rfl, bag', by omega, by omega, fun G1 v but1 bag1 v0 v1 => ?_⟩
      refine ⟨_, _, rfl, rfl, _, rfl, len_line (by show 5 ≤ 100000; decide), fun p np => ?_⟩
      have pb := (But.free (But.refl b G1) bag1 np).1
      refine ⟨b, p, _, rfl, bag1.new np, .inl (SqL.of upd_same), pb, by show 0 < 5; decide, by show 5 < 1073741824; decide, fun G2 x mem but2 bag2 => ?_⟩
      have s2 := (but1.new np).trans but2
      obtain ⟨j, rfl, j0, j1⟩ : ∃ j, x = V.int j ∧ 0 ≤ j ∧ j ≤ 2 := by
        simp only [List.mem_cons, List.not_mem_nil, or_false] at mem
        rcases mem with e | e | e | e | e <;> subst e
        · exact ⟨0, rfl, by decide, by decide⟩
        · exact ⟨0, rfl, by decide, by decide⟩
        · exact ⟨1, rfl, by decide, by decide⟩
        · exact ⟨2, rfl, by decide, by decide⟩
        · exact ⟨1, rfl, by decide, by decide⟩
      refine ⟨len_line (by show 2 ≤ 100000; decide), fun t nt => ?_⟩
      obtain ⟨tb, t0⟩ := But.free (But.refl b G2) bag2 nt
      have s3 : But b G2 (upd G2 t (.tup [.int (1 + v), .int j])) := (But.refl b G2).new nt
      have sall := s2.trans s3
      have at_D2 := sall.1 _ _ Db at_D
      refine ⟨xs, at_D2, small1000 (by omega), xs ++ [.ref t], ps ++ [(1 + v, j)], upd_same, ?_, ?_, by simp [len], ?_⟩
      · exact (sG'.trans sall).put D0 Db
      · rw [List.map_append]
        have tD : t ≠ D := fun z => by
          have := s2.1 _ _ Db at_D
          rw [← z, nt] at this
          cases this
        exact DatAll.snoc2 (DatAll.up (del2_up sall Db) all) (.tup (.inl (.inl (del2_at tb tD (by rw [upd_ne tD]; exact upd_same)))) (.cons (.int _) (.cons (.int _) .nil)))
      · intro y m
        rcases List.mem_append.mp m with m | m
        · exact each y m
        · have e : y = (1 + v, j) := by simpa using m
          subst e
          exact ⟨by show (1 : Int) ≤ 1 + v; omega, by show 1 + v ≤ most; omega, j0, j1⟩
    · rintro G' ⟨xs, ps, at_D, sG', all, len, each⟩
      refine ⟨D, xs, rfl, .inl ⟨SqL.of at_D, fun p np => ?_⟩⟩
      have bag' := bag.but sG'
      obtain ⟨pb, p0⟩ := But.free sG' bag' np
      have s3 : But b G' (upd G' p (.tup xs)) := (But.refl b G').new np
      exact fin _ p ps (sG'.trans s3) p0 (.tup (.inl (.inl (dt_at pb upd_same))) (DatAll.but s3 (DatAll.up del2_sub all))) (by omega) each
end
end
end K29

namespace Vd
open PySem PySem.Spec PyProof.Rows L2
/-! ### sorted of tuples that begin with unlike texts -/
/-- a text stands ahead of another one -/
def ahead (x y : Str) : Bool := decide (x.cps.toList < y.cps.toList)
theorem ahead_irrefl (x : Str) : ahead x x = false := decide_eq_false (List.lt_irrefl _)
theorem ahead_swo {α : Type} (k : α → Str) : SrtO.Swo fun v u => ahead (k v) (k u) := by
  constructor
  · intro x y h
    have h' : (k x).cps.toList < (k y).cps.toList := of_decide_eq_true h
    exact decide_eq_false (List.lt_asymm h')
  · intro x y z h g
    have h' : ¬ (k y).cps.toList < (k x).cps.toList := of_decide_eq_false h
    have g' : ¬ (k z).cps.toList < (k y).cps.toList := of_decide_eq_false g
    exact decide_eq_false fun n => h' (List.lt_of_le_of_lt (List.not_lt.mp g') n)
/-- a tuple (text, integer, object) in a heap -/
def Trio (h : Heap) (v : Value) (x : Str) : Prop := ∃ (a p : Addr) (o : Obj) (i : Int) (t u : Tok) (n : Nat), v = .ref a ∧ h.get? a = some o ∧ o.cls = .type "tuple" ∧ o.data = .seq #[.str x t, .int i u, .ref p] n
section
variable {prog : Program} {w : World} {A : Around} {E : Value → Shared → Prop} {s : Shared}
theorem trio_cmp {vs : List Value} {k : Value → Str} (each : ∀ v ∈ vs, Trio s.heap v (k v)) (inj : ∀ v ∈ vs, ∀ u ∈ vs, k v = k u → v = u) : SrtO.Cmp prog w A s (tuples' true) (fun p => p.1 ∈ vs) (SrtO.lt2 fun v u => ahead (k v) (k u)) := by
  rintro ⟨v, v2⟩ ⟨u, u2⟩ mv mu
  have mv' : v ∈ vs := mv
  have mu' : u ∈ vs := mu
  obtain ⟨a, p, o, i, t1, t2, n, ev, ho, hc, hd⟩ := each v mv'
  obtain ⟨b, q, o', j, t3, t4, n', eu, ho', hc', hd'⟩ := each u mu'
  show wpAny (model prog w) A (keyLt' (tuples' true) v u) (fun r s' => s' = s ∧ r = ahead (k v) (k u)) (fun _ _ => False) s
  have same : k v = k u → a = b := fun e => by
    have := inj v mv' u mu' e
    rw [ev, eu] at this
    exact Value.ref.inj this
  generalize k v = x at hd same ⊢
  generalize k u = y at hd' same ⊢
  subst ev eu
  refine PySem.W.kat_lt ho hd ho' hd' ?_
  show PySem.W.KatLex prog w A true (decide (3 < 3)) _ [(.str x t1, .str y t3), (.int i t2, .int j t4), (.ref p, .ref q)] 0 s
  refine PySem.W.kat_cons (SeqAt.EqAt.str_str x t1 y t3 prog w _ _ (PySem.W.kat_go (fun yes => ?_) (fun nay => ?_)))
  · have e : x = y := by simpa using yes
    have eab := same e
    subst eab
    rw [ho] at ho'
    cases ho'
    rw [hd] at hd'
    cases hd'
    refine PySem.W.kat_yes (PySem.W.kat_cons (SeqAt.EqAt.int_int i t2 i t2 prog w _ _ ?_))
    rw [beq_self_eq_true]
    refine PySem.W.kat_yes (PySem.W.kat_cons ?_)
    refine (eq_of_rc (fun no => absurd rfl no) : EqT prog w A s (.ref p) (.ref p)) _ _ ?_
    refine PySem.W.kat_yes (PySem.W.kat_nil ⟨rfl, ?_⟩)
    rw [ahead_irrefl]
    rfl
  · exact PySem.W.kat_no (oneLt_str ⟨rfl, rfl⟩)
theorem trio_firsts {h : Heap} {k : Value → Str} : ∀ {vs : List Value}, (∀ v ∈ vs, Trio h v (k v)) → ∃ fs : List Value, PySem.W.KatTups h vs fs ∧ fs.length = vs.length ∧ ∀ f ∈ fs, ∃ x t, f = Value.str x t
  | [], _ => ⟨[], .nil, rfl, fun _ no => nomatch no⟩
  | v :: vs, all => by
    obtain ⟨fs, kt, len, tx⟩ := trio_firsts (k := k) (vs := vs) fun u m => all u (.tail _ m)
    obtain ⟨a, p, o, i, t1, t2, n, ev, ho, hc, hd⟩ := all v (.head _)
    subst ev
    refine ⟨.str _ t1 :: fs, .cons ho hc hd rfl kt, by simp [len], fun f m => ?_⟩
    cases m with
    | head => exact ⟨_, _, rfl⟩
    | tail _ m => exact tx f m
theorem trio_sorted {l : Addr} {vs : List Value} {k : Value → Str} {Q : Value → Shared → Prop} (hl : s.heap.IsList l vs.toArray) (few : vs.length ≤ sizeLine) (each : ∀ v ∈ vs, Trio s.heap v (k v)) (inj : ∀ v ∈ vs, ∀ u ∈ vs, k v = k u → v = u)
    (fin : ∀ (h' : Heap) (d : Addr) (out : List Value), SrtO.Srtd (fun v u => ahead (k v) (k u)) out → out.Perm vs → (∀ b o, s.heap.get? b = some o → h'.get? b = some o) → s.heap.objs.size ≤ d → (∃ n, h'.get? d = some (seqObj "list" out.toArray n)) → Q (.ref d) { s with heap := h' }) :
    wpAny (model prog w) A (call (.builtin "sorted") [.ref l]) Q E s := by
  refine SrtO.sorted_ord (ahead_swo k) hl few (fun two h1 a at_a kept => fun h2 keep => ?_) (fun out so st => fin _ _ out so st.perm (fun b o e => sortedAll_old e) (Nat.le_succ _) (sortedAll_at s.heap vs out.toArray))
  have each2 : ∀ v ∈ vs, Trio h2 v (k v) := fun v m => by
    obtain ⟨c, p, o, i, t1, t2, n, ev, ho, hc, hd⟩ := each v m
    obtain ⟨ne, up⟩ := kept c o ho
    exact ⟨c, p, o, i, t1, t2, n, ev, keep c o ne up, hc, hd⟩
  obtain ⟨fs, kt, len, tx⟩ := trio_firsts each2
  refine ⟨tuples' true, fun Q' E' q => ?_, trio_cmp (s := { s with heap := h2 }) each2 inj⟩
  refine PySem.W.kat_kind (T := .type "str") kt (by omega) (fun f m => ?_) (by rfl) q
  obtain ⟨x, t, rfl⟩ := tx f m
  exact PySem.W.Looks.now
end
section
variable {X : Cx}
/-- sorted(xs), xs a list of tuples (text, integer, object), the texts unlike -/
theorem call_sortedN : CallR X (.builtin "sorted") (fun vs H Q => ∃ (a : Addr) (xs : List V) (k : V → Str), vs = [.ref a] ∧ SqL X.K H a xs ∧ (∀ x ∈ xs, ∃ (t p : Addr) (i : Int), x = .ref t ∧ H t = some (.tup [.str (k x), .int i, .ref p])) ∧ (∀ x ∈ xs, ∀ y ∈ xs, k x = k y → x = y) ∧
    ∀ ys q, SrtO.Srtd (fun x y => ahead (k x) (k y)) ys → ys.Perm xs → H q = none → Q (.ref q) (upd H q (.lst ys))) := by
  rintro pins s σ H vs us Q I rel ⟨a, xs, k, rfl, sq, each, inj, fin⟩
  obtain ⟨its, rv, pl, few⟩ := I.list sq
  obtain ⟨u, rfl, ru⟩ := vals1 rel
  cases (show u = Value.ref a from ru)
  obtain ⟨back, refs⟩ := refs_back rv fun x m => let ⟨t, _, _, e, _⟩ := each x m; ⟨t, e⟩
  have mem : ∀ {t : Addr}, Value.ref t ∈ its → V.ref t ∈ xs := fun {t} m => by
    rw [back]
    exact List.mem_map.mpr ⟨_, m, rfl⟩
  refine trio_sorted (k := fun v => k (backV v)) pl.isList (by rw [← rv.length]; exact few) (fun v m => ?_) (fun v m v' m' e => ?_) fun h' d out so perm kept new at_d => ?_
  · obtain ⟨t, rfl⟩ := refs v m
    obtain ⟨t', p, i, e, at_t⟩ := each _ (mem m)
    cases e
    obtain ⟨_, its2, r2, o, ho, hc, n, hd⟩ := I.hok _ _ at_t
    cases r2 with
    | cons r21 r22 =>
      cases r22 with
      | cons r23 r24 =>
        cases r24 with
        | cons r25 r26 =>
          cases r26
          obtain ⟨t1, rfl⟩ := r21
          obtain ⟨t2, rfl⟩ := r23
          cases r25
          exact ⟨t, p, o, i, t1, t2, n, rfl, ho, hc, hd⟩
  · obtain ⟨t, rfl⟩ := refs v m
    obtain ⟨t', rfl⟩ := refs v' m'
    have := inj _ (mem m) _ (mem m') e
    cases this
    rfl
  · have refs2 : ∀ v ∈ out, ∃ t, v = Value.ref t := fun v m => refs v (perm.mem_iff.mp m)
    obtain ⟨n, at_d⟩ := at_d
    have permV : (out.map backV).Perm xs := by
      rw [back]
      exact perm.map _
    refine ⟨.ref d, upd H d (.lst (out.map backV)), I.laid (t' := s.toks) kept new ⟨?_, out, n, vals_back refs2, at_d⟩, rfl, fin _ d (SrtO.srtd_map so) permV (I.hok.fresh new)⟩
    rw [permV.length_eq]
    exact few
end
end Vd

namespace K29
open PySem PySem.Spec PyProof.Rows L2 Vd Evl
/-! ### a heap without some of its lists -/
def dls (S : List Addr) (G : Hp) : Hp := fun p => if p ∈ S then none else G p
theorem dls_at {S : List Addr} {G : Hp} {p : Addr} {o : HO} (n : p ∉ S) (e : G p = some o) : dls S G p = some o := by
  unfold dls
  rw [if_neg n]
  exact e
theorem dls_sub {S : List Addr} {G : Hp} : ∀ p o, dls S G p = some o → p ∉ S ∧ G p = some o := fun p o e => by
  unfold dls at e
  split at e
  · cases e
  · rename_i n
    exact ⟨n, e⟩
def OffS (S : List Addr) (G G' : Hp) : Prop := ∀ p o, p ∉ S → G p = some o → G' p = some o
theorem OffS.dls {S : List Addr} {G G' : Hp} (s : OffS S G G') : ∀ p o, dls S G p = some o → dls S G' p = some o := fun p o e => by
  obtain ⟨n, e1⟩ := dls_sub p o e
  exact dls_at n (s p o n e1)
theorem OffS.trans {S : List Addr} {G G1 G2 : Hp} (x : OffS S G G1) (y : OffS S G1 G2) : OffS S G G2 := fun p o n e => y p o n (x p o n e)
theorem OffS.but {S : List Addr} {b : Addr} {G G' : Hp} (m : b ∈ S) (s : But b G G') : OffS S G G' := fun p o n e => s.1 p o (fun z => n (z ▸ m)) e
theorem OffS.put {S : List Addr} {p : Addr} {G : Hp} {o : HO} (m : p ∈ S) : OffS S G (upd G p o) := fun q u n e => by
  rw [upd_ne (fun z : q = p => n (by rw [z]; exact m))]
  exact e
theorem OffS.same {S : List Addr} {G G' : Hp} (s : Same G G') : OffS S G G' := fun p o _ e => s p o e

/-! ### halls -/
abbrev Mach := Str × Int × List (Int × Int)
abbrev Belt := Str × Str × Int × Int
def machD (m : Mach) : PyData := .tuple [.str m.1, .int m.2.1, pursesD m.2.2]
def beltD (m : Belt) : PyData := .tuple [.str m.1, .str m.2.1, .int m.2.2.1, .int m.2.2.2]
structure Hall where
  ms : List Mach
  bs : List Belt
  fl : Str
def hallD (h : Hall) : PyData := .tuple [.tuple (h.ms.map machD), .tuple (h.bs.map beltD), .str h.fl]
/-- from one machine one comes to another along belts, whichever way these lead -/
inductive Reach (bs : List Belt) (x : Str) : Str → Prop
  | here : Reach bs x x
  | ahead {y : Str} {m : Belt} : Reach bs x y → m ∈ bs → m.1 = y → Reach bs x m.2.1
  | back {y : Str} {m : Belt} : Reach bs x y → m ∈ bs → m.2.1 = y → Reach bs x m.1
theorem Reach.more {bs cs : List Belt} {x y : Str} (sub : ∀ m ∈ bs, m ∈ cs) (h : Reach bs x y) : Reach cs x y := by
  induction h with
  | here => exact .here
  | ahead _ m e ih => exact .ahead ih (sub _ m) e
  | back _ m e ih => exact .back ih (sub _ m) e
def eight : List Str := ["cap", "box", "wash", "sort", "lab", "a", "tray", "z"]
def MachOk (most : Int) (m : Mach) : Prop := 1 ≤ m.2.1 ∧ m.2.1 ≤ 10 ∧ m.2.2.length ≤ 2 ∧ ∀ x ∈ m.2.2, PurseOk most x
def BeltOk (ns : List Str) (m : Belt) : Prop := m.1 ≠ m.2.1 ∧ m.1 ∈ ns ∧ m.2.1 ∈ ns ∧ 1 ≤ m.2.2.1 ∧ m.2.2.1 ≤ 4 ∧ 0 ≤ m.2.2.2 ∧ m.2.2.2 ≤ m.2.2.1
structure Hall.Ok (most : Int) (h : Hall) : Prop where
  asc : (h.ms.map (·.1)).Pairwise fun x y => ahead x y = true
  ms : ∀ m ∈ h.ms, MachOk most m
  names : ∀ m ∈ h.ms, m.1 = h.fl ∨ m.1 ∈ eight
  fl : h.fl = "fill" ∨ h.fl = "m"
  pace : ∃ p : Int, (h.fl, p, []) ∈ h.ms ∧ 2 ≤ p ∧ p ≤ 7
  bs : ∀ m ∈ h.bs, BeltOk (h.ms.map (·.1)) m
  joined : ∀ m ∈ h.ms, Reach h.bs h.fl m.1
  few : h.ms.length ≤ 9
  fewB : h.bs.length ≤ 10
/-- a machine that stands in a heap, beside S -/
def MachAt (K : PySem.W.Frag) (S : List Addr) (G : Hp) (v : V) (m : Mach) : Prop := ∃ t p : Addr, v = .ref t ∧ t ∉ S ∧ G t = some (.tup [.str m.1, .int m.2.1, .ref p]) ∧ Dat K (dls S G) (.ref p) (pursesD m.2.2)
theorem MachAt.off {K : PySem.W.Frag} {S : List Addr} {G G' : Hp} {v : V} {m : Mach} (s : OffS S G G') (h : MachAt K S G v m) : MachAt K S G' v m := by
  obtain ⟨t, p, e, n, a, d⟩ := h
  exact ⟨t, p, e, n, s _ _ n a, Dat.up s.dls d⟩
theorem MachAt.dat {K : PySem.W.Frag} {S : List Addr} {G : Hp} {v : V} {m : Mach} (h : MachAt K S G v m) : Dat K (dls S G) v (machD m) := by
  obtain ⟨t, p, rfl, n, a, d⟩ := h
  exact .tup (.inl (.inl (dls_at n a))) (.cons (.str _) (.cons (.int _) (.cons d .nil)))
inductive MachsAt (K : PySem.W.Frag) (S : List Addr) (G : Hp) : List V → List Mach → Prop
  | nil : MachsAt K S G [] []
  | cons {v : V} {m : Mach} {vs : List V} {ms : List Mach} : MachAt K S G v m → MachsAt K S G vs ms → MachsAt K S G (v :: vs) (m :: ms)
theorem MachsAt.off {K : PySem.W.Frag} {S : List Addr} {G G' : Hp} (s : OffS S G G') : ∀ {vs : List V} {ms : List Mach}, MachsAt K S G vs ms → MachsAt K S G' vs ms
  | _, _, .nil => .nil
  | _, _, .cons a r => .cons (a.off s) (r.off s)
theorem MachsAt.snoc {K : PySem.W.Frag} {S : List Addr} {G : Hp} {v : V} {m : Mach} (h : MachAt K S G v m) : ∀ {vs : List V} {ms : List Mach}, MachsAt K S G vs ms → MachsAt K S G (vs ++ [v]) (ms ++ [m])
  | _, _, .nil => .cons h .nil
  | _, _, .cons a r => .cons a (r.snoc h)
theorem MachsAt.len {K : PySem.W.Frag} {S : List Addr} {G : Hp} : ∀ {vs : List V} {ms : List Mach}, MachsAt K S G vs ms → vs.length = ms.length
  | _, _, .nil => rfl
  | _, _, .cons _ r => by rw [List.length_cons, List.length_cons, r.len]
theorem MachsAt.mem {K : PySem.W.Frag} {S : List Addr} {G : Hp} : ∀ {vs : List V} {ms : List Mach}, MachsAt K S G vs ms → ∀ v ∈ vs, ∃ m ∈ ms, MachAt K S G v m
  | _, _, .nil, v, no => nomatch no
  | _, _, .cons a r, v, h => by
    cases h with
    | head => exact ⟨_, .head _, a⟩
    | tail _ h =>
      obtain ⟨m, x, y⟩ := r.mem v h
      exact ⟨m, .tail _ x, y⟩
theorem MachsAt.dats {K : PySem.W.Frag} {S : List Addr} {G : Hp} : ∀ {vs : List V} {ms : List Mach}, MachsAt K S G vs ms → DatAll K (dls S G) vs (ms.map machD)
  | _, _, .nil => .nil
  | _, _, .cons a r => .cons a.dat r.dats
theorem MachsAt.perm {K : PySem.W.Frag} {S : List Addr} {G : Hp} {vs ws : List V} (p : ws.Perm vs) : ∀ {ms : List Mach}, MachsAt K S G vs ms → ∃ ns, ns.Perm ms ∧ MachsAt K S G ws ns := by
  induction p with
  | nil => intro ms h; cases h; exact ⟨[], .nil, .nil⟩
  | cons x _ ih =>
    intro ms h
    cases h with
    | cons a r =>
      obtain ⟨ns, p', r'⟩ := ih r
      exact ⟨_, p'.cons _, .cons a r'⟩
  | swap x y l =>
    intro ms h
    cases h with
    | cons a r =>
      cases r with
      | cons a' r => exact ⟨_, .swap _ _ _, .cons a' (.cons a r)⟩
  | trans _ _ ih1 ih2 =>
    intro ms h
    obtain ⟨ns, p1, r1⟩ := ih2 h
    obtain ⟨ns', p2, r2⟩ := ih1 r1
    exact ⟨ns', p2.trans p1, r2⟩
theorem dats_perm {K : PySem.W.Frag} {G : Hp} {α : Type} {f : α → PyData} {vs ws : List V} (p : ws.Perm vs) : ∀ {ms : List α}, DatAll K G vs (ms.map f) → ∃ ns : List α, ns.Perm ms ∧ DatAll K G ws (ns.map f) := by
  induction p with
  | nil =>
    intro ms h
    cases ms with
    | nil => exact ⟨[], .nil, .nil⟩
    | cons m ms => cases h
  | cons x _ ih =>
    intro ms h
    cases ms with
    | nil => cases h
    | cons m ms =>
      cases h with
      | cons a r =>
        obtain ⟨ns, p', r'⟩ := ih r
        exact ⟨m :: ns, p'.cons _, .cons a r'⟩
  | swap x y l =>
    intro ms h
    match ms, h with
    | m :: n :: ms, .cons a (.cons a' r) => exact ⟨n :: m :: ms, .swap _ _ _, .cons a' (.cons a r)⟩
  | trans _ _ ih1 ih2 =>
    intro ms h
    obtain ⟨ns, p1, r1⟩ := ih2 h
    obtain ⟨ns', p2, r2⟩ := ih1 r1
    exact ⟨ns', p2.trans p1, r2⟩
end K29

namespace K29
open PySem PySem.Spec PyProof.Rows L2 Vd Evl
abbrev sWeb : Stmt := topS 25
def webN : List Str := ["bag", "machines", "most", "names", "filler", "pace", "found", "belts", "joined", "name", "time", "room", "other", "first", "turn", "start", "end"]
theorem scWeb : FnScope webN ["bag", "machines", "most"] (defScope sWeb) := ⟨rfl, rfl, rfl, by decide +kernel, rfl, by decide +kernel, by decide +kernel⟩
section
variable {P : Program} {w : World} {K : PySem.W.Frag} {mg : Str → Option Value} {base : Heap}
/-- the state while a hall is drawn: found holds ms, belts bs, joined jn -/
structure Fills (K : PySem.W.Frag) (H : Hp) (b pf pb pj : Addr) (most : Int) (fl : Str) (pace : Int) (jf jn : List Str) (ms : List Mach) (bs : List Belt) (G : Hp) : Prop where
  but : But b H G
  at_f : ∃ fv, G pf = some (.lst fv) ∧ MachsAt K [b, pf, pb, pj] G fv ms
  at_b : ∃ bv, G pb = some (.lst bv) ∧ DatAll K (dls [b, pf, pb, pj] G) bv (bs.map beltD)
  at_j : G pj = some (.lst (jn.map V.str))
  names : ms.map (·.1) = jf
  msok : ∀ m ∈ ms, MachOk most m
  bsok : ∀ m ∈ bs, BeltOk jf m
  join : ∀ x ∈ jn, Reach bs fl x
  paced : (fl, pace, []) ∈ ms
structure Lone (H : Hp) (b pf pb pj : Addr) : Prop where
  nf : H pf = none
  nb : H pb = none
  nj : H pj = none
  fb : pf ≠ b
  bb : pb ≠ b
  jb : pj ≠ b
  bf : pb ≠ pf
  jf : pj ≠ pf
  jbb : pj ≠ pb
theorem Fills.step {H G G' : Hp} {b pf pb pj : Addr} {most : Int} {fl : Str} {pace : Int} {jf jn : List Str} {ms : List Mach} {bs : List Belt} (a : Lone H b pf pb pj) (h : Fills K H b pf pb pj most fl pace jf jn ms bs G) (s : But b G G') :
    Fills K H b pf pb pj most fl pace jf jn ms bs G' := by
  have off : OffS [b, pf, pb, pj] G G' := OffS.but (.head _) s
  obtain ⟨fv, f1, f2⟩ := h.at_f
  obtain ⟨bv, b1, b2⟩ := h.at_b
  exact ⟨h.but.trans s, ⟨fv, s.1 _ _ a.fb f1, f2.off off⟩, ⟨bv, s.1 _ _ a.bb b1, DatAll.up off.dls b2⟩, s.1 _ _ a.jb h.at_j, h.names, h.msok, h.bsok, h.join, h.paced⟩
theorem cut_first (xs : List V) (n : Nat) (h : n ≤ xs.length) : cutV xs none (some (n : Int)) = xs.take n := by
  unfold cutV
  have e1 : HT.sIx xs.length 0 none = 0 := rfl
  have e2 : HT.sIx xs.length xs.length (some (n : Int)) = n := by
    rw [HT.sIx_nat]
    omega
  rw [e1, e2, List.drop_zero]
  rfl
/-! ### data without a list -/
mutual
def noList : PyData → Bool
  | .list _ => false
  | .tuple xs => noLists xs
  | .dict kvs => noListk kvs
  | _ => true
def noLists : List PyData → Bool
  | [] => true
  | x :: xs => noList x && noLists xs
def noListk : List (PyData × PyData) → Bool
  | [] => true
  | (_, v) :: r => noList v && noListk r
end
mutual
theorem strip {F F' : Hp} (s : ∀ p o, F p = some o → (∀ xs, o ≠ .lst xs) → F' p = some o) : ∀ {v : V} {d : PyData}, noList d = true → Dat K F v d → Dat K F' v d
  | _, _, _, .non => .non
  | _, _, _, .bl b => .bl b
  | _, _, _, .int i => .int i
  | _, _, _, .str x => .str x
  | _, _, n, .lst _ _ => by cases n
  | _, _, n, .tup a b => by
    refine .tup ?_ (strips s (by simpa [noList] using n) b)
    rcases a with (a | ⟨o, a⟩) | a
    · exact .inl (.inl (s _ _ a fun xs z => by cases z))
    · exact .inl (.inr ⟨o, s _ _ a fun xs z => by cases z⟩)
    · exact .inr a
  | _, _, n, .dic a b => .dic (s _ _ a fun xs z => by cases z) (stripk s (by simpa [noList] using n) b)
theorem strips {F F' : Hp} (s : ∀ p o, F p = some o → (∀ xs, o ≠ .lst xs) → F' p = some o) : ∀ {vs : List V} {ds : List PyData}, noLists ds = true → DatAll K F vs ds → DatAll K F' vs ds
  | _, _, _, .nil => .nil
  | _, _, n, .cons a b => by
    have n' := n
    simp only [noLists, Bool.and_eq_true] at n'
    exact .cons (strip s n'.1 a) (strips s n'.2 b)
theorem stripk {F F' : Hp} (s : ∀ p o, F p = some o → (∀ xs, o ≠ .lst xs) → F' p = some o) : ∀ {vs : List (Key × V)} {ds : List (PyData × PyData)}, noListk ds = true → DatKv K F vs ds → DatKv K F' vs ds
  | _, _, _, .nil => .nil
  | _, _, n, .cons a b => by
    have n' := n
    simp only [noListk, Bool.and_eq_true] at n'
    exact .cons (strip s n'.1 a) (stripk s n'.2 b)
end
theorem purses_noList (ps : List (Int × Int)) : noList (pursesD ps) = true := by
  show noLists (ps.map pairD) = true
  induction ps with
  | nil => rfl
  | cons x xs ih =>
    show (noList (pairD x) && noLists (xs.map pairD)) = true
    rw [ih]
    rfl
def unStr : V → Str
  | .str x => x
  | _ => Str.empty
theorem perm_strs {ys : List V} {xs : List Str} (p : ys.Perm (xs.map V.str)) : ∃ zs : List Str, ys = zs.map V.str ∧ zs.Perm xs := by
  refine ⟨ys.map unStr, ?_, ?_⟩
  · rw [List.map_map]
    have : ∀ y ∈ ys, (V.str ∘ unStr) y = y := fun y m => by
      obtain ⟨x, _, e⟩ := List.mem_map.mp (p.mem_iff.mp m)
      rw [← e]
      rfl
    exact (List.map_id' ys).symm.trans (List.map_congr_left fun y m => (this y m).symm)
  · have := p.map unStr
    rw [List.map_map] at this
    have e : xs.map (unStr ∘ V.str) = xs := (List.map_congr_left (g := id) fun _ _ => rfl).trans (List.map_id xs)
    rwa [e] at this
theorem BeltOk.more {jf : List Str} {x : Str} {m : Belt} (h : BeltOk jf m) : BeltOk (jf ++ [x]) m := ⟨h.1, List.mem_append_left _ h.2.1, List.mem_append_left _ h.2.2.1, h.2.2.2⟩
section
variable {H G : Hp} {b pf pb pj : Addr} {most : Int} {fl : Str} {pace : Int} {jf jn : List Str} {ms : List Mach} {bs : List Belt}
theorem four_off {t : Addr} (h : Fills K H b pf pb pj most fl pace jf jn ms bs G) (bag : BagAt G b) (nt : G t = none) : t ∉ [b, pf, pb, pj] := by
  obtain ⟨fv, f1, _⟩ := h.at_f
  obtain ⟨bv, b1, _⟩ := h.at_b
  have j1 := h.at_j
  simp only [List.mem_cons, List.not_mem_nil, or_false, not_or]
  exact ⟨(But.free (But.refl b G) bag nt).1, (ne_of_none f1 nt).symm, (ne_of_none b1 nt).symm, (ne_of_none j1 nt).symm⟩
theorem Fills.found (a : Lone H b pf pb pj) (h : Fills K H b pf pb pj most fl pace jf jn ms bs G) (bag : BagAt G b) {t p : Addr} {nm : Str} {time : Int} {ps : List (Int × Int)} {fv : List V} (nt : G t = none) (dt : Dt K b G (.ref p) (pursesD ps)) (at_f : G pf = some (.lst fv))
    (mok : MachOk most (nm, time, ps)) : Fills K H b pf pb pj most fl pace (jf ++ [nm]) jn (ms ++ [(nm, time, ps)]) bs (upd (upd G t (.tup [.str nm, .int time, .ref p])) pf (.lst (fv ++ [.ref t]))) := by
  have tn := four_off h bag nt
  obtain ⟨fv', f1, f2⟩ := h.at_f
  rw [at_f] at f1
  cases f1
  obtain ⟨bv, b1, b2⟩ := h.at_b
  have j1 := h.at_j
  have off : OffS [b, pf, pb, pj] G (upd (upd G t (.tup [.str nm, .int time, .ref p])) pf (.lst (fv ++ [.ref t]))) := (OffS.same (same_new nt)).trans (OffS.put (by simp))
  have tf : t ≠ pf := (ne_of_none at_f nt).symm
  have bt : pb ≠ t := ne_of_none b1 nt
  have jt : pj ≠ t := ne_of_none j1 nt
  refine ⟨(h.but.new nt).put a.nf a.fb, ⟨_, upd_same, MachsAt.snoc ⟨t, p, rfl, tn, by rw [upd_ne tf, upd_same], ?_⟩ (f2.off off)⟩, ⟨bv, by rw [upd_ne a.bf, upd_ne bt]; exact b1, DatAll.up off.dls b2⟩, by rw [upd_ne a.jf, upd_ne jt]; exact j1, ?_, ?_, fun m x => (h.bsok m x).more, h.join, List.mem_append_left _ h.paced⟩
  · refine strip (fun q o e no => ?_) (purses_noList ps) dt
    have qb : q ≠ b := fun z => by
      rw [z, del_same] at e
      cases e
    rw [del_ne qb] at e
    refine dls_at ?_ (off q o ?_ e)
    all_goals
      simp only [List.mem_cons, List.not_mem_nil, or_false, not_or]
      refine ⟨qb, fun z => ?_, fun z => ?_, fun z => ?_⟩
      · rw [z, at_f] at e
        cases e
        exact no _ rfl
      · rw [z, b1] at e
        cases e
        exact no _ rfl
      · rw [z, j1] at e
        cases e
        exact no _ rfl
  · rw [List.map_append, h.names]
    rfl
  · intro m x
    rcases List.mem_append.mp x with x | x
    · exact h.msok m x
    · cases x with
      | head => exact mok
      | tail _ no => cases no
theorem Fills.belt (a : Lone H b pf pb pj) (h : Fills K H b pf pb pj most fl pace jf jn ms bs G) (bag : BagAt G b) {t : Addr} {m : Belt} {bv : List V} (nt : G t = none) (at_b : G pb = some (.lst bv)) (ok : BeltOk jf m) :
    Fills K H b pf pb pj most fl pace jf jn ms (bs ++ [m]) (upd (upd G t (.tup [.str m.1, .str m.2.1, .int m.2.2.1, .int m.2.2.2])) pb (.lst (bv ++ [.ref t]))) := by
  have tn := four_off h bag nt
  obtain ⟨fv, f1, f2⟩ := h.at_f
  obtain ⟨bv', b1, b2⟩ := h.at_b
  rw [at_b] at b1
  cases b1
  have j1 := h.at_j
  have off : OffS [b, pf, pb, pj] G (upd (upd G t (.tup [.str m.1, .str m.2.1, .int m.2.2.1, .int m.2.2.2])) pb (.lst (bv ++ [.ref t]))) := (OffS.same (same_new nt)).trans (OffS.put (by simp))
  have tb : t ≠ pb := (ne_of_none at_b nt).symm
  have ft : pf ≠ t := ne_of_none f1 nt
  have jt : pj ≠ t := ne_of_none j1 nt
  refine ⟨(h.but.new nt).put a.nb a.bb, ⟨fv, by rw [upd_ne a.bf.symm, upd_ne ft]; exact f1, f2.off off⟩, ⟨_, upd_same, ?_⟩, by rw [upd_ne a.jbb, upd_ne jt]; exact j1, h.names, h.msok, ?_, fun x y => (h.join x y).more fun z w => List.mem_append_left _ w, h.paced⟩
  · rw [List.map_append]
    exact DatAll.snoc2 (DatAll.up off.dls b2) (.tup (.inl (.inl (dls_at tn (by rw [upd_ne tb, upd_same])))) (.cons (.str _) (.cons (.str _) (.cons (.int _) (.cons (.int _) .nil)))))
  · intro x y
    rcases List.mem_append.mp y with y | y
    · exact h.bsok x y
    · cases y with
      | head => exact ok
      | tail _ no => cases no
theorem Fills.joined (a : Lone H b pf pb pj) (h : Fills K H b pf pb pj most fl pace jf jn ms bs G) {nm : Str} (re : Reach bs fl nm) :
    Fills K H b pf pb pj most fl pace jf (jn ++ [nm]) ms bs (upd G pj (.lst (jn.map V.str ++ [.str nm]))) := by
  obtain ⟨fv, f1, f2⟩ := h.at_f
  obtain ⟨bv, b1, b2⟩ := h.at_b
  have off : OffS [b, pf, pb, pj] G (upd G pj (.lst (jn.map V.str ++ [.str nm]))) := OffS.put (by simp)
  refine ⟨h.but.put a.nj a.jb, ⟨fv, by rw [upd_ne a.jf.symm]; exact f1, f2.off off⟩, ⟨bv, by rw [upd_ne a.jbb.symm]; exact b1, DatAll.up off.dls b2⟩, by rw [upd_same, List.map_append]; rfl, h.names, h.msok, h.bsok, ?_, h.paced⟩
  intro x y
  rcases List.mem_append.mp y with y | y
  · exact h.join x y
  · cases y with
    | head => exact re
    | tail _ no => cases no
theorem Fills.len_f {fv : List V} (h : Fills K H b pf pb pj most fl pace jf jn ms bs G) (e : G pf = some (.lst fv)) : fv.length = jf.length := by
  obtain ⟨fv', f1, f2⟩ := h.at_f
  rw [e] at f1
  cases f1
  rw [f2.len, ← h.names, List.length_map]
theorem Fills.len_b {bv : List V} (h : Fills K H b pf pb pj most fl pace jf jn ms bs G) (e : G pb = some (.lst bv)) : bv.length = bs.length := by
  obtain ⟨bv', b1, b2⟩ := h.at_b
  rw [e] at b1
  cases b1
  rw [dats_len b2, List.length_map]
end
/-- the text with which a tuple begins -/
def keyAt (G : Hp) : V → Str
  | .ref t => match G t with
    | some (.tup (.str x :: _)) => x
    | _ => Str.empty
  | _ => Str.empty
theorem key_of {G : Hp} {t : Addr} {x : Str} {r : List V} (e : G t = some (.tup (.str x :: r))) : keyAt G (.ref t) = x := by
  unfold keyAt
  simp only [e]
theorem MachsAt.keys {S : List Addr} {G : Hp} : ∀ {vs : List V} {ms : List Mach}, MachsAt K S G vs ms → vs.map (keyAt G) = ms.map (·.1)
  | _, _, .nil => rfl
  | _, _, .cons ⟨t, p, e, n, a, d⟩ r => by
    subst e
    rw [List.map_cons, List.map_cons, key_of a, r.keys]
theorem inj_of {α β : Type} {f : α → β} : ∀ {l : List α}, (l.map f).Nodup → ∀ x ∈ l, ∀ y ∈ l, f x = f y → x = y
  | [], _, x, no, _, _, _ => nomatch no
  | a :: l, n, x, hx, y, hy, e => by
    rw [List.map_cons, List.nodup_cons] at n
    cases hx with
    | head =>
      cases hy with
      | head => rfl
      | tail _ hy => exact absurd (List.mem_map.mpr ⟨y, hy, e.symm⟩) n.1
    | tail _ hx =>
      cases hy with
      | head => exact absurd (List.mem_map.mpr ⟨x, hx, e⟩) n.1
      | tail _ hy => exact inj_of n.2 x hx y hy e
theorem ahead_total {x y : Str} (h : ahead y x = false) (ne : x ≠ y) : ahead x y = true := by
  have h' : ¬ y.cps.toList < x.cps.toList := of_decide_eq_false h
  have le : x.cps.toList ≤ y.cps.toList := List.not_lt.mp h'
  by_cases l : x.cps.toList < y.cps.toList
  · exact decide_eq_true l
  · refine absurd ?_ ne
    have e : x.cps.toList = y.cps.toList := List.le_antisymm le (List.not_lt.mp l)
    cases x
    cases y
    simp at e
    rw [e]
def spWeb (K : PySem.W.Frag) : Sp := fun vs H Q _ => ∃ (b : Addr) (many : Nat) (most : Int), vs = [.ref b, .int many, .int most] ∧ BagAt H b ∧ many ≤ 8 ∧ 1 ≤ most ∧ most < 1000000 ∧
  ∀ H' r h, But b H H' → H r = none → r ≠ b → Dt K b H' (.ref r) (hallD h) → Hall.Ok most h → h.ms.length = many + 1 → Q (.ref r) H'
theorem ok_web {f fT fS fM fP fF : Addr} {fd fdT fdS fdM fdP fdF : FuncData} (F : At K mg "_law_web" sWeb ["bag", "machines", "most"] f fd) (T : At K mg "_law_take" sTake ["bag", "many"] fT fdT) (S : At K mg "_law_some" sSome ["bag", "things"] fS fdS)
    (Mx : At K mg "_law_mixed" sMixed ["bag", "things"] fM fdM) (Pu : At K mg "_law_purses" sPur ["bag", "most"] fP fdP) (Fi : At K mg "_law_first" sFirst ["bag", "room"] fF fdF) (mi : mg "int" = none) (ml : mg "len" = none) (mt : mg "tuple" = none) (mr : mg "range" = none) (ms : mg "sorted" = none) :
    FnOk P w K mg base CX0 4 f fd ["bag", "machines", "most"] (spWeb K) := by
  have GT : FnOk P w K mg base CX0 1 fT fdT ["bag", "many"] spTake := ok_take T.fn mi
  have GS : FnOk P w K mg base CX0 2 fS fdS ["bag", "things"] (spSome K) := ok_some S T mi ml
  have GM : FnOk P w K mg base CX0 2 fM fdM ["bag", "things"] (spMixed K) := ok_mixed Mx T mi ml
  have GP : FnOk P w K mg base CX0 3 fP fdP ["bag", "most"] (spPur K) := ok_pur T S mi ml Pu mt mr
  have GF : FnOk P w K mg base CX0 3 fF fdF ["bag", "room"] spFirst := ok_first T S mi ml Fi
  have bt : bootBuiltins "tuple" = some (.type "tuple") := by decide +kernel
  have bs_ : bootBuiltins "sorted" = some (.builtin "sorted") := by decide +kernel
  refine F.fn.ok scWeb (fun vs H Q E h => ?_) (fun cdv A outer s H vs Q E hr h => ?_)
  · obtain ⟨b, many, most, rfl, _⟩ := h
    rfl
  · obtain ⟨b, many, most, rfl, bag, many8, m0, m1, fin⟩ := h
    have nd := scWeb.nd
    have hr1 : Room 1 _ := hr.mono (by decide)
    have hr2 : Room 2 _ := hr.mono (by decide)
    refine ⟨_, pss_cut (ps_set (i := 3) nd rfl (Or.inl rfl) (pe_slice sl_list (pe_call GM hr2 (by rfl) Mx.g Mx.fn.kp Mx.b .nil pass0 (pa_cons (pv 0) (pa_cons (pe_lst (pa_cons pe_str (pa_cons pe_str (pa_cons pe_str (pa_cons pe_str (pa_cons pe_str (pa_cons pe_str (pa_cons pe_str (pa_cons pe_str pa_nil))))))))) pa_nil))) po_none (po_some (pv 1))))
      (pss_cut (ps_par (i := 4) (j := 5) (by rfl) nd rfl rfl (by decide) rfl rfl (pa_cons (pe_call GS hr2 (by rfl) S.g S.fn.kp S.b .nil pass0 (pa_cons (pv 0) (pa_cons (pe_lst (pa_cons pe_str (pa_cons pe_str (pa_cons pe_str pa_nil)))) pa_nil))) (pa_cons (pe_op op_add pe_int (pe_call GT hr1 (by rfl) T.g T.fn.kp T.b .nil pass0 (pa_cons (pv 0) (pa_cons pe_int pa_nil)))) pa_nil)) (by rfl))
      (pss_cut (ps_par3 (i := 6) (j := 7) (l := 8) (by rfl) nd rfl rfl rfl (by decide) (by decide) (by decide) rfl rfl rfl (pa_cons (pe_lst (pa_cons (pe_tup (pa_cons (pv 4) (pa_cons (pv 5) (pa_cons (pe_tup pa_nil) pa_nil)))) pa_nil)) (pa_cons (pe_lst pa_nil) (pa_cons (pe_lst (pa_cons (pv 4) pa_nil)) pa_nil))) (by rfl))
      (pss_cut (ps_for PassesOwn.never rfl (pi_list (pv 3)) (pg_name (i := 9) nd rfl (Or.inl rfl))
          (pss_cut (ps_set (i := 10) nd rfl (Or.inl rfl) (pe_op op_add pe_int (pe_call GT hr1 (by rfl) T.g T.fn.kp T.b .nil pass0 (pa_cons (pv 0) (pa_cons (pe_op op_add (pv 5) (pe_callTy call_int1 (by rfl) mi (by decide +kernel) (pa_cons (pe_cmpR op_eq (pe_call GT hr1 (by rfl) T.g T.fn.kp T.b .nil pass0 (pa_cons (pv 0) (pa_cons pe_int pa_nil))) pe_int (nomark _)) pa_nil))) pa_nil)))))
          (pss_cut (ps_expr (pe_bm PySem.F.plainAttrs_list PySem.F.slot_list_append PySem.F.type_list_append mt_append (pv 6) (pa_cons (pe_tup (pa_cons (pv 9) (pa_cons (pv 10) (pa_cons (pe_call GP hr (by rfl) Pu.g Pu.fn.kp Pu.b .nil pass0 (pa_cons (pv 0) (pa_cons (pv 2) pa_nil))) pa_nil)))) pa_nil)))
          (pss_cut (ps_par (i := 11) (j := 12) (by rfl) nd rfl rfl (by decide) rfl rfl (pa_cons (pe_op op_add pe_int (pe_call GT hr1 (by rfl) T.g T.fn.kp T.b .nil pass0 (pa_cons (pv 0) (pa_cons pe_int pa_nil)))) (pa_cons (pe_call GS hr2 (by rfl) S.g S.fn.kp S.b .nil pass0 (pa_cons (pv 0) (pa_cons (pv 8) pa_nil))) pa_nil)) (by rfl))
          (pss_cut (ps_set (i := 13) nd rfl (Or.inl rfl) (pe_call GF hr (by rfl) Fi.g Fi.fn.kp Fi.b .nil pass0 (pa_cons (pv 0) (pa_cons (pv 11) pa_nil))))
          (pss_cut (ps_expr (pe_bm PySem.F.plainAttrs_list PySem.F.slot_list_append PySem.F.type_list_append mt_append (pv 7) (pa_cons (pe_ifExp (pt_cmpR op_gt (pe_call GT hr1 (by rfl) T.g T.fn.kp T.b .nil pass0 (pa_cons (pv 0) (pa_cons pe_int pa_nil))) pe_int (nomark _)) (pe_tup (pa_cons (pv 9) (pa_cons (pv 12) (pa_cons (pv 11) (pa_cons (pv 13) pa_nil))))) (pe_tup (pa_cons (pv 12) (pa_cons (pv 9) (pa_cons (pv 11) (pa_cons (pv 13) pa_nil)))))) pa_nil)))
          (pss_one (ps_expr (pe_bm PySem.F.plainAttrs_list PySem.F.slot_list_append PySem.F.type_list_append mt_append (pv 8) (pa_cons (pv 9) pa_nil))))))))))
      (pss_cut (ps_for PassesOwn.never rfl (pi_range1 (by rfl) mr (pa_cons (pe_ifExp (pt_cmpR op_gt (pv 1) pe_int (nomark _)) (pe_call GS hr2 (by rfl) S.g S.fn.kp S.b .nil pass0 (pa_cons (pv 0) (pa_cons (pe_lst (pa_cons pe_int (pa_cons pe_int (pa_cons pe_int (pa_cons pe_int pa_nil))))) pa_nil))) pe_int) pa_nil)) (pg_name (i := 14) nd rfl (Or.inl rfl))
          (pss_cut (ps_asg (pe_slice sl_list (pe_call GM hr2 (by rfl) Mx.g Mx.fn.kp Mx.b .nil pass0 (pa_cons (pv 0) (pa_cons (pv 8) pa_nil))) po_none (po_some pe_int)) (pg_lst rfl (pgs_cons (pg_name (i := 15) nd rfl (Or.inl rfl)) (pgs_cons (pg_name (i := 16) nd rfl (Or.inl rfl)) pgs_nil))))
          (pss_cut (ps_set (i := 11) nd rfl (Or.inl rfl) (pe_op op_add pe_int (pe_call GT hr1 (by rfl) T.g T.fn.kp T.b .nil pass0 (pa_cons (pv 0) (pa_cons pe_int pa_nil)))))
          (pss_one (ps_expr (pe_bm PySem.F.plainAttrs_list PySem.F.slot_list_append PySem.F.type_list_append mt_append (pv 7) (pa_cons (pe_tup (pa_cons (pv 15) (pa_cons (pv 16) (pa_cons (pv 11) (pa_cons (pe_call GF hr (by rfl) Fi.g Fi.fn.kp Fi.b .nil pass0 (pa_cons (pv 0) (pa_cons (pv 11) pa_nil))) pa_nil))))) pa_nil)))))))
      (pss_one (ps_ret (pe_tup (pa_cons (pe_callTy call_tuple_of (by rfl) mt bt (pa_cons (pe_callB call_sortedN (by rfl) ms bs_ (pa_cons (pv 6) pa_nil)) pa_nil)) (pa_cons (pe_callTy call_tuple_of (by rfl) mt bt (pa_cons (pe_call GM hr2 (by rfl) Mx.g Mx.fn.kp Mx.b .nil pass0 (pa_cons (pv 0) (pa_cons (pv 7) pa_nil))) pa_nil)) (pa_cons (pv 4) pa_nil)))))))))), ?_⟩
    refine ⟨fun σ' G => ∃ (pn : Addr) (ns : List Str), σ' = ([some (.ref b), some (.int many), some (.int most), some (.ref pn), none, none, none, none, none, none, none, none, none, none, none, none, none] : L2.St) ∧
      G pn = some (.lst (ns.map V.str)) ∧ ns.Nodup ∧ (∀ x ∈ ns, x ∈ eight) ∧ ns.length = many ∧ But b H G ∧ pn ≠ b, ?_, ?_⟩
    · refine ⟨_, rfl, len_line (by show 8 ≤ 100000; decide), fun p np => ?_⟩
      have pb := (But.free (But.refl b H) bag np).1
      refine ⟨b, p, _, rfl, bag.new np, SqL.of upd_same, pb, by show 8 ≤ 1000; decide, fun G1 q ys but1 bag1 q0 qb at_q perm => ?_⟩
      obtain ⟨zs, rfl, perm'⟩ := perm_strs (xs := eight) perm
      have len : zs.length = 8 := perm'.length_eq
      refine ⟨_, rfl, many, rfl, q, _, rfl, SqL.of at_q, fun c nc => ?_⟩
      rw [cut_first _ _ (by rw [List.length_map]; omega), ← List.map_take]
      have nodup : zs.Nodup := perm'.nodup_iff.mpr (by decide +kernel)
      refine ⟨c, zs.take many, rfl, upd_same, nodup.sublist (List.take_sublist _ _), fun x m => perm'.mem_iff.mp (List.mem_of_mem_take m), by rw [List.length_take]; omega, (((But.refl b H).new np).trans but1).new nc, (But.free (But.refl b G1) bag1 nc).1⟩
    rintro _ G1 ⟨pn, ns, rfl, at_n, nodup, sub, len, but1, nb⟩
    have bag1 := bag.but but1
    refine ⟨fun σ' G => ∃ (fl : Str) (pace : Int), σ' = ([some (.ref b), some (.int many), some (.int most), some (.ref pn), some (.str fl), some (.int pace), none, none, none, none, none, none, none, none, none, none, none] : L2.St) ∧
      (fl = "fill" ∨ fl = "m") ∧ 2 ≤ pace ∧ pace ≤ 7 ∧ But b G1 G, ?_, ?_⟩
    · refine ⟨_, rfl, len_line (by show 3 ≤ 100000; decide), fun p np => ?_⟩
      have pb := (But.free (But.refl b G1) bag1 np).1
      refine ⟨b, p, _, rfl, bag1.new np, .inl (SqL.of upd_same), pb, by show 0 < 3; decide, by show 3 < 1073741824; decide, fun G2 x mem but2 bag2 => ?_⟩
      refine ⟨_, rfl, b, 6, rfl, bag2, by decide, by decide, fun G3 v but3 bag3 v0 v1 => ?_⟩
      have s3 := (((But.refl b G1).new np).trans but2).trans but3
      simp only [List.mem_cons, List.not_mem_nil, or_false] at mem
      rcases mem with e | e | e <;> subst e
      · exact ⟨_, _, rfl, rfl, _, _, rfl, "fill", 2 + v, rfl, .inl rfl, by omega, by omega, s3⟩
      · exact ⟨_, _, rfl, rfl, _, _, rfl, "m", 2 + v, rfl, .inr rfl, by omega, by omega, s3⟩
      · exact ⟨_, _, rfl, rfl, _, _, rfl, "fill", 2 + v, rfl, .inl rfl, by omega, by omega, s3⟩
    rintro _ G2 ⟨fl, pace, rfl, hfl, p0, p1, but2⟩
    have bag2 := bag1.but but2
    have hfl8 : ∀ x ∈ ns, x ≠ fl := fun x m e => by
      have := sub x m
      rw [e] at this
      rcases hfl with z | z <;> rw [z] at this <;> exact absurd this (by decide +kernel)
    refine ⟨fun σ' G => ∃ (pf pb pj : Addr), σ' = ([some (.ref b), some (.int many), some (.int most), some (.ref pn), some (.str fl), some (.int pace), some (.ref pf), some (.ref pb), some (.ref pj), none, none, none, none, none, none, none, none] : L2.St) ∧
      Lone G1 b pf pb pj ∧ Fills K G1 b pf pb pj most fl pace [fl] [fl] [(fl, pace, [])] [] G, ?_, ?_⟩
    · refine ⟨_, rfl, _, rfl, len_line (by show 0 ≤ 100000; decide), fun t0 nt0 => ⟨len_line (by show 3 ≤ 100000; decide), fun t nt => ⟨len_line (by show 1 ≤ 100000; decide), fun pf npf => ⟨len_line (by show 0 ≤ 100000; decide), fun pb npb =>
        ⟨_, rfl, len_line (by show 1 ≤ 100000; decide), fun pj npj => ⟨_, _, _, rfl, pf, pb, pj, rfl, ?_⟩⟩⟩⟩⟩⟩
      have c1 := but2.new (o := .tup []) nt0
      have c2 := c1.new (o := .tup [.str fl, .int pace, .ref t0]) nt
      have c3 := c2.new (o := .lst [.ref t]) npf
      have c4 := c3.new (o := .lst []) npb
      have c5 := c4.new (o := .lst [.str fl]) npj
      have g2 := bag1.but c2
      have g3 := bag1.but c3
      have g4 := bag1.but c4
      obtain ⟨fb, nf⟩ := But.free c2 g2 npf
      obtain ⟨bb, nb'⟩ := But.free c3 g3 npb
      obtain ⟨jb, nj⟩ := But.free c4 g4 npj
      obtain ⟨t0b, _⟩ := But.free but2 bag2 nt0
      obtain ⟨tb, _⟩ := But.free c1 (bag1.but c1) nt
      have s1 := same_new (o := .tup [.str fl, .int pace, .ref t0]) nt
      have s2 := same_new (o := .lst [.ref t]) npf
      have s3 := same_new (o := .lst []) npb
      have s4 := same_new (o := .lst [.str fl]) npj
      have at_t2 := s2 _ _ (upd_same (H := upd G2 t0 (.tup [])) (a := t) (o := .tup [.str fl, .int pace, .ref t0]))
      have at_t3 := s3 _ _ at_t2
      have at_t4 := s4 _ _ at_t3
      have at_u1 := s1 _ _ (upd_same (H := G2) (a := t0) (o := .tup []))
      have at_u2 := s2 _ _ at_u1
      have at_u3 := s3 _ _ at_u2
      have at_u4 := s4 _ _ at_u3
      have at_f3 := s3 _ _ (upd_same (H := upd (upd G2 t0 (.tup [])) t (.tup [.str fl, .int pace, .ref t0])) (a := pf) (o := .lst [.ref t]))
      have at_f4 := s4 _ _ at_f3
      have at_b4 := s4 _ _ (upd_same (H := upd (upd (upd G2 t0 (.tup [])) t (.tup [.str fl, .int pace, .ref t0])) pf (.lst [.ref t])) (a := pb) (o := .lst []))
      have tn : t ∉ [b, pf, pb, pj] := by
        simp only [List.mem_cons, List.not_mem_nil, or_false, not_or]
        exact ⟨tb, ne_of at_t4 at_f4 (fun z => by cases z), ne_of at_t4 at_b4 (fun z => by cases z), ne_of at_t4 upd_same (fun z => by cases z)⟩
      have un : t0 ∉ [b, pf, pb, pj] := by
        simp only [List.mem_cons, List.not_mem_nil, or_false, not_or]
        exact ⟨t0b, ne_of at_u4 at_f4 (fun z => by cases z), ne_of at_u4 at_b4 (fun z => by cases z), ne_of at_u4 upd_same (fun z => by cases z)⟩
      refine ⟨⟨nf, nb', nj, fb, bb, jb, (ne_of_none upd_same npb).symm, (ne_of_none at_f3 npj).symm, (ne_of_none upd_same npj).symm⟩, ⟨c5, ⟨_, at_f4, .cons ⟨t, t0, rfl, tn, at_t4, .tup (.inl (.inl (dls_at un at_u4))) .nil⟩ .nil⟩, ⟨_, at_b4, .nil⟩, upd_same, rfl, ?_, (fun m no => nomatch no), ?_, .head _⟩⟩
      · intro m h
        cases h with
        | head => exact ⟨by show (1 : Int) ≤ pace; omega, by show pace ≤ 10; omega, by show 0 ≤ 2; decide, fun x no => nomatch no⟩
        | tail _ h => cases h
      · intro x h
        cases h with
        | head => exact .here
        | tail _ h => cases h
    rintro _ G3 ⟨pf, pb, pj, rfl, lone, fills⟩
    refine ⟨fun σ' G => ∃ (v9 v10 v11 v12 v13 : Option V) (ms : List Mach) (bs : List Belt), σ' = ([some (.ref b), some (.int many), some (.int most), some (.ref pn), some (.str fl), some (.int pace), some (.ref pf), some (.ref pb), some (.ref pj), v9, v10, v11, v12, v13, none, none, none] : L2.St) ∧
      Fills K G1 b pf pb pj most fl pace (fl :: ns) (fl :: ns) ms bs G ∧ bs.length = many, ?_, ?_⟩
    · refine ⟨_, rfl, pn, rfl, ⟨_, SqL.of (fills.but.1 _ _ nb at_n)⟩, for_list (K := K) (a := pn) (xs := ns.map V.str) (fun i σ' G => ∃ (v9 v10 v11 v12 v13 : Option V) (ms : List Mach) (bs : List Belt),
          σ' = ([some (.ref b), some (.int many), some (.int most), some (.ref pn), some (.str fl), some (.int pace), some (.ref pf), some (.ref pb), some (.ref pj), v9, v10, v11, v12, v13, none, none, none] : L2.St) ∧
          Fills K G1 b pf pb pj most fl pace (fl :: ns.take i) (fl :: ns.take i) ms bs G ∧ bs.length = i) ⟨none, none, none, none, none, _, [], rfl, fills, rfl⟩ (fun i σ' G _ ⟨_, _, _, _, _, _, _, _, fi, _⟩ => SqL.of (fi.but.1 _ _ nb at_n)) ?_ ?_⟩
      · rintro i x _ G at_i ⟨v9, v10, v11, v12, v13, ms', bs', rfl, fi, lb⟩
        have lt : i < ns.length := by
          have := (List.getElem?_eq_some_iff.mp at_i).1
          rwa [List.length_map] at this
        obtain ⟨nm, rfl, at_nm⟩ : ∃ nm, x = V.str nm ∧ ns[i]? = some nm := by
          rw [List.getElem?_map] at at_i
          cases e : ns[i]? with
          | none => rw [e] at at_i; cases at_i
          | some nm => rw [e] at at_i; exact ⟨nm, (Option.some.inj at_i).symm, rfl⟩
        have e1 : ns.take (i + 1) = ns.take i ++ [nm] := by
          rw [List.take_succ, at_nm]
          rfl
        have fresh : nm ∉ fl :: ns.take i := by
          intro m
          cases m with
          | head => exact hfl8 _ (List.mem_of_getElem? at_nm) rfl
          | tail _ m =>
            have nd2 : (ns.take i ++ [nm]).Nodup := by
              rw [← e1]
              exact nodup.sublist (List.take_sublist _ _)
            exact (List.nodup_append.mp nd2).2.2 _ m _ (.head _) rfl
        have bg : ∀ {G' : Hp}, But b G1 G' → BagAt G' b := fun s => bag1.but s
        -- time
        refine ⟨fun σ' G' => ∃ time : Int, σ' = ([some (.ref b), some (.int many), some (.int most), some (.ref pn), some (.str fl), some (.int pace), some (.ref pf), some (.ref pb), some (.ref pj), some (.str nm), some (.int time), v11, v12, v13, none, none, none] : L2.St) ∧ 1 ≤ time ∧ time ≤ 10 ∧
          Fills K G1 b pf pb pj most fl pace (fl :: ns.take i) (fl :: ns.take i) ms' bs' G', ?_, ?_⟩
        · refine ⟨_, rfl, _, rfl, _, rfl, b, 6, rfl, bg fi.but, by decide, by decide, fun G5 v but5 bag5 v0 v1 => ?_⟩
          refine ⟨rfl, .inr ⟨_, rfl, _, _, rfl, rfl, b, _, rfl, bag5, ?_, ?_, fun G6 u but6 bag6 u0 u1 => ⟨_, _, rfl, rfl, 1 + u, rfl, by omega, ?_, (fi.step lone but5).step lone but6⟩⟩⟩
          · split <;> omega
          · split <;> omega
          · revert u1
            split <;> omega
        rintro _ G5 ⟨time, rfl, ti0, ti1, fi5⟩
        -- found
        refine ⟨fun σ' G' => ∃ ps : List (Int × Int), σ' = ([some (.ref b), some (.int many), some (.int most), some (.ref pn), some (.str fl), some (.int pace), some (.ref pf), some (.ref pb), some (.ref pj), some (.str nm), some (.int time), v11, v12, v13, none, none, none] : L2.St) ∧
          Fills K G1 b pf pb pj most fl pace (fl :: ns.take i ++ [nm]) (fl :: ns.take i) (ms' ++ [(nm, time, ps)]) bs' G', ?_, ?_⟩
        · obtain ⟨fv, f1, _⟩ := fi5.at_f
          refine ⟨_, rfl, .inl ⟨rfl, _, SqL.of f1⟩, _, rfl, _, rfl, _, rfl, _, rfl, b, most, rfl, bg fi5.but, m0, m1, fun G6 p ps but6 p0' dt lp each => ?_⟩
          have fi6 := fi5.step lone but6
          have f6 := but6.1 _ _ lone.fb f1
          refine ⟨len_line (by show 3 ≤ 100000; decide), fun t nt => ?_⟩
          have ne : pf ≠ t := ne_of_none f6 nt
          refine ⟨pf, fv, .ref t, rfl, rfl, by rw [upd_ne ne]; exact f6, small1000 ?_, ps, rfl, ?_⟩
          · have := fi6.len_f f6
            simp only [List.length_cons, List.length_take] at this
            omega
          · exact fi6.found lone (bg fi6.but) nt dt f6 ⟨ti0, ti1, lp, each⟩
        rintro _ G6 ⟨ps, rfl, fi6⟩
        -- room, other
        refine ⟨fun σ' G' => ∃ (room : Int) (other : Str), σ' = ([some (.ref b), some (.int many), some (.int most), some (.ref pn), some (.str fl), some (.int pace), some (.ref pf), some (.ref pb), some (.ref pj), some (.str nm), some (.int time), some (.int room), some (.str other), v13, none, none, none] : L2.St) ∧
          1 ≤ room ∧ room ≤ 4 ∧ other ∈ fl :: ns.take i ∧ Fills K G1 b pf pb pj most fl pace (fl :: ns.take i ++ [nm]) (fl :: ns.take i) (ms' ++ [(nm, time, ps)]) bs' G', ?_, ?_⟩
        · refine ⟨_, rfl, b, 4, rfl, bg fi6.but, by decide, by decide, fun G7 v but7 bag7 v0 v1 => ?_⟩
          have fi7 := fi6.step lone but7
          refine ⟨_, _, rfl, rfl, _, rfl, _, rfl, b, pj, _, rfl, bag7, .inl (SqL.of fi7.at_j), lone.jb, by simp, ?_, fun G8 x mem but8 bag8 => ?_⟩
          · rw [List.length_map, List.length_cons, List.length_take]
            omega
          · obtain ⟨other, mo, rfl⟩ := List.mem_map.mp mem
            exact ⟨_, _, rfl, 1 + v, other, rfl, by omega, by omega, mo, fi7.step lone but8⟩
        rintro _ G7 ⟨room, other, rfl, ro0, ro1, mo, fi7⟩
        -- first
        refine ⟨fun σ' G' => ∃ first : Int, σ' = ([some (.ref b), some (.int many), some (.int most), some (.ref pn), some (.str fl), some (.int pace), some (.ref pf), some (.ref pb), some (.ref pj), some (.str nm), some (.int time), some (.int room), some (.str other), some (.int first), none, none, none] : L2.St) ∧
          0 ≤ first ∧ first ≤ room ∧ Fills K G1 b pf pb pj most fl pace (fl :: ns.take i ++ [nm]) (fl :: ns.take i) (ms' ++ [(nm, time, ps)]) bs' G', ?_, ?_⟩
        · exact ⟨_, rfl, _, rfl, b, room, rfl, bg fi7.but, by omega, by omega, fun G8 v but8 v0 v1 => ⟨v, rfl, v0, v1, fi7.step lone but8⟩⟩
        rintro _ G8 ⟨first, rfl, fi0, fi1, fi8⟩
        -- belts
        refine ⟨fun σ' G' => ∃ m : Belt, σ' = ([some (.ref b), some (.int many), some (.int most), some (.ref pn), some (.str fl), some (.int pace), some (.ref pf), some (.ref pb), some (.ref pj), some (.str nm), some (.int time), some (.int room), some (.str other), some (.int first), none, none, none] : L2.St) ∧
          Reach (bs' ++ [m]) fl nm ∧ Fills K G1 b pf pb pj most fl pace (fl :: ns.take i ++ [nm]) (fl :: ns.take i) (ms' ++ [(nm, time, ps)]) (bs' ++ [m]) G', ?_, ?_⟩
        · obtain ⟨bv, b1, _⟩ := fi8.at_b
          have unlike : nm ≠ other := fun z => fresh (by rw [z]; exact mo)
          have lb8 := fi8.len_b b1
          refine ⟨_, rfl, .inl ⟨rfl, _, SqL.of b1⟩, _, rfl, b, 3, rfl, bg fi8.but, by decide, by decide, fun G9 v but9 bag9 v0 v1 => ?_⟩
          have fi9 := fi8.step lone but9
          have b9 := but9.1 _ _ lone.bb b1
          have reach : ∀ m, Reach (bs' ++ [m]) fl other := fun m => (fi8.join other mo).more fun z y => List.mem_append_left _ y
          refine ⟨_, _, rfl, rfl, _, rfl, ite2 (fun _ => ?_) (fun _ => ?_)⟩
          · refine ⟨_, rfl, _, rfl, _, rfl, _, rfl, len_line (by show 4 ≤ 100000; decide), fun t nt => ?_⟩
            have ne : pb ≠ t := ne_of_none b9 nt
            refine ⟨pb, bv, .ref t, rfl, rfl, by rw [upd_ne ne]; exact b9, small1000 (by omega), (nm, other, room, first), rfl, Reach.back (m := (nm, other, room, first)) (reach _) (by simp) rfl, ?_⟩
            exact fi9.belt lone bag9 nt b9 ⟨unlike, by simp, List.mem_append_left _ mo, ro0, ro1, fi0, fi1⟩
          · refine ⟨_, rfl, _, rfl, _, rfl, _, rfl, len_line (by show 4 ≤ 100000; decide), fun t nt => ?_⟩
            have ne : pb ≠ t := ne_of_none b9 nt
            refine ⟨pb, bv, .ref t, rfl, rfl, by rw [upd_ne ne]; exact b9, small1000 (by omega), (other, nm, room, first), rfl, Reach.ahead (m := (other, nm, room, first)) (reach _) (by simp) rfl, ?_⟩
            exact fi9.belt lone bag9 nt b9 ⟨unlike.symm, List.mem_append_left _ mo, by simp, ro0, ro1, fi0, fi1⟩
        rintro _ G9 ⟨m, rfl, re, fi9⟩
        refine ⟨_, rfl, .inl ⟨rfl, _, SqL.of fi9.at_j⟩, _, rfl, pj, _, .str nm, rfl, rfl, fi9.at_j, small1000 ?_, _, _, _, _, _, ms' ++ [(nm, time, ps)], bs' ++ [m], rfl, ?_, ?_⟩
        · rw [List.length_map, List.length_cons, List.length_take]
          omega
        · rw [e1]
          exact fi9.joined lone re
        · rw [List.length_append, lb]
          rfl
      · rintro _ G ⟨v9, v10, v11, v12, v13, ms', bs', rfl, fi, lb⟩
        rw [List.length_map] at fi lb
        rw [List.take_length] at fi
        exact ⟨v9, v10, v11, v12, v13, ms', bs', rfl, fi, by omega⟩
    rintro _ G4 ⟨v9, v10, v11, v12, v13, ms', bs', rfl, fi, lb⟩
    have bg : ∀ {G' : Hp}, But b G1 G' → BagAt G' b := fun s => bag1.but s
    -- more belts
    have jlen : (fl :: ns).length = many + 1 := by rw [List.length_cons, len]
    refine ⟨fun σ' G => ∃ (v9 v10 v11 v12 v13 v14 v15 v16 : Option V) (bs2 : List Belt), σ' = ([some (.ref b), some (.int many), some (.int most), some (.ref pn), some (.str fl), some (.int pace), some (.ref pf), some (.ref pb), some (.ref pj), v9, v10, v11, v12, v13, v14, v15, v16] : L2.St) ∧
      Fills K G1 b pf pb pj most fl pace (fl :: ns) (fl :: ns) ms' bs2 G ∧ bs2.length ≤ many + 2, ?_, ?_⟩
    · refine ⟨_, rfl, _, _, rfl, rfl, _, rfl, ite2 (fun pos => ?_) (fun no => ?_)⟩
      · have pos' : 0 < many := by
          have := of_decide_eq_true pos
          omega
        refine ⟨_, rfl, len_line (by show 4 ≤ 100000; decide), fun p np => ?_⟩
        have pb' := (But.free (But.refl b G4) (bg fi.but) np).1
        refine ⟨b, p, _, rfl, (bg fi.but).new np, .inl (SqL.of upd_same), pb', by show 0 < 4; decide, by show 4 < 1073741824; decide, fun G5 x mem but5 bag5 => ?_⟩
        have fi5 := fi.step lone (((But.refl b G4).new np).trans but5)
        obtain ⟨k, rfl, k2⟩ : ∃ k : Nat, x = V.int k ∧ k ≤ 2 := by
          simp only [List.mem_cons, List.not_mem_nil, or_false] at mem
          rcases mem with e | e | e | e
          · exact ⟨0, e, by decide⟩
          · exact ⟨0, e, by decide⟩
          · exact ⟨1, e, by decide⟩
          · exact ⟨2, e, by decide⟩
        refine ⟨k, rfl, by omega, by omega, ?_⟩
        rw [Int.toNat_natCast]
        refine for_range (lo := 0) (n := k) (fun i σ' G => ∃ (v9 v10 v11 v12 v13 v14 v15 v16 : Option V) (bs2 : List Belt), σ' = ([some (.ref b), some (.int many), some (.int most), some (.ref pn), some (.str fl), some (.int pace), some (.ref pf), some (.ref pb), some (.ref pj), v9, v10, v11, v12, v13, v14, v15, v16] : L2.St) ∧
          Fills K G1 b pf pb pj most fl pace (fl :: ns) (fl :: ns) ms' bs2 G ∧ bs2.length = many + i) ⟨_, _, _, _, _, none, none, none, bs', rfl, fi5, by omega⟩ ?_ ?_
        · rintro i _ G lt ⟨v9, v10, v11, v12, v13, v14, v15, v16, bs2, rfl, fi6, lb6⟩
          refine ⟨fun σ' G' => ∃ (v14 : Option V) (s1 s2 : Str), σ' = ([some (.ref b), some (.int many), some (.int most), some (.ref pn), some (.str fl), some (.int pace), some (.ref pf), some (.ref pb), some (.ref pj), v9, v10, v11, v12, v13, v14, some (.str s1), some (.str s2)] : L2.St) ∧
            s1 ≠ s2 ∧ s1 ∈ fl :: ns ∧ s2 ∈ fl :: ns ∧ Fills K G1 b pf pb pj most fl pace (fl :: ns) (fl :: ns) ms' bs2 G', ?_, ?_⟩
          · refine ⟨_, rfl, _, rfl, b, pj, _, rfl, bg fi6.but, SqL.of fi6.at_j, lone.jb, by rw [List.length_map]; omega, fun G7 q ys but7 bag7 q0 qb at_q perm => ?_⟩
            obtain ⟨zs, rfl, perm'⟩ := perm_strs perm
            have zl : zs.length = many + 1 := by rw [perm'.length_eq, jlen]
            match zs, zl, perm', at_q with
            | s1 :: s2 :: rest, zl, perm', at_q =>
              refine ⟨2, rfl, q, _, rfl, SqL.of at_q, fun c nc => ?_⟩
              have e2 := cut_first ((s1 :: s2 :: rest).map V.str) 2 (by simp)
              have nd2 : (s1 :: s2 :: rest).Nodup := perm'.nodup_iff.mpr (List.nodup_cons.mpr ⟨fun m => hfl8 _ m rfl, nodup⟩)
              have fi7 := fi6.step lone but7
              refine ⟨c, _, rfl, SqL.of upd_same, ?_, ?_⟩
              · exact (congrArg List.length e2).trans rfl
              · have e3 : cutV (List.map V.str (s1 :: s2 :: rest)) none (some 2) = [.str s1, .str s2] := e2
                rw [e3]
                refine ⟨_, _, rfl, _, _, rfl, rfl, _, s1, s2, rfl, ?_, perm'.mem_iff.mp (by simp), perm'.mem_iff.mp (by simp), fi7.step lone ((But.refl b G7).new nc)⟩
                intro z
                rw [z] at nd2
                exact (List.nodup_cons.mp nd2).1 (by simp)
            | [_], zl, _, _ => exact absurd zl (by simp; omega)
            | [], zl, _, _ => exact absurd zl (by simp)
          rintro _ G7 ⟨u14, s1, s2, rfl, unlike, in1, in2, fi7⟩
          refine ⟨fun σ' G' => ∃ (room : Int), σ' = ([some (.ref b), some (.int many), some (.int most), some (.ref pn), some (.str fl), some (.int pace), some (.ref pf), some (.ref pb), some (.ref pj), v9, v10, some (.int room), v12, v13, u14, some (.str s1), some (.str s2)] : L2.St) ∧
            1 ≤ room ∧ room ≤ 4 ∧ Fills K G1 b pf pb pj most fl pace (fl :: ns) (fl :: ns) ms' bs2 G', ?_, ?_⟩
          · refine ⟨_, rfl, b, 4, rfl, bg fi7.but, by decide, by decide, fun G8 v but8 bag8 v0 v1 => ?_⟩
            exact ⟨_, _, rfl, rfl, 1 + v, rfl, by omega, by omega, fi7.step lone but8⟩
          rintro _ G8 ⟨room, rfl, ro0, ro1, fi8⟩
          obtain ⟨bv, b1, _⟩ := fi8.at_b
          have lb8 := fi8.len_b b1
          refine ⟨_, rfl, .inl ⟨rfl, _, SqL.of b1⟩, _, rfl, _, rfl, _, rfl, _, rfl, _, rfl, b, room, rfl, bg fi8.but, by omega, by omega, fun G9 v but9 v0 v1 => ?_⟩
          have fi9 := fi8.step lone but9
          have b9 := but9.1 _ _ lone.bb b1
          refine ⟨len_line (by show 4 ≤ 100000; decide), fun t nt => ?_⟩
          have ne : pb ≠ t := ne_of_none b9 nt
          refine ⟨pb, bv, .ref t, rfl, rfl, by rw [upd_ne ne]; exact b9, small1000 (by omega), _, _, _, _, _, _, _, _, bs2 ++ [(s1, s2, room, v)], rfl, ?_, ?_⟩
          · exact fi9.belt (m := (s1, s2, room, v)) lone (bg fi9.but) nt b9 ⟨unlike, in1, in2, ro0, ro1, v0, v1⟩
          · rw [List.length_append, lb6]
            show many + i + 1 = many + (i + 1)
            omega
        · rintro _ G ⟨v9, v10, v11, v12, v13, v14, v15, v16, bs2, rfl, fi6, lb6⟩
          exact ⟨_, _, _, _, _, _, _, _, bs2, rfl, fi6, by omega⟩
      · refine ⟨0, rfl, by decide, by decide, ?_⟩
        refine for_range (lo := 0) (n := 0) (fun i σ' G => σ' = ([some (.ref b), some (.int many), some (.int most), some (.ref pn), some (.str fl), some (.int pace), some (.ref pf), some (.ref pb), some (.ref pj), v9, v10, v11, v12, v13, none, none, none] : L2.St) ∧
          Fills K G1 b pf pb pj most fl pace (fl :: ns) (fl :: ns) ms' bs' G) ⟨rfl, fi⟩ (fun i _ _ no => absurd no (Nat.not_lt_zero _)) ?_
        rintro _ G ⟨rfl, fi6⟩
        exact ⟨_, _, _, _, _, _, _, _, bs', rfl, fi6, by omega⟩
    rintro _ G5 ⟨w9, w10, w11, w12, w13, w14, w15, w16, bs2, rfl, fi5, lb5⟩
    obtain ⟨fv, f1, f2⟩ := fi5.at_f
    obtain ⟨bv, b1, b2⟩ := fi5.at_b
    have keys : fv.map (keyAt G5) = fl :: ns := by rw [f2.keys, fi5.names]
    have ndk : (fl :: ns).Nodup := List.nodup_cons.mpr ⟨fun m => hfl8 _ m rfl, nodup⟩
    have msl : ms'.length = many + 1 := by
      rw [← List.length_map (f := (·.1)) (as := ms'), fi5.names, jlen]
    have S4 : ∀ {p : Addr}, p ∈ [b, pf, pb, pj] → True := fun _ => trivial
    refine ⟨_, rfl, pf, fv, keyAt G5, rfl, SqL.of f1, ?_, inj_of (by rw [keys]; exact ndk), fun ys q asc perm nq => ?_⟩
    · intro x m
      obtain ⟨mm, _, t, p, e, _, at_t, _⟩ := f2.mem x m
      subst e
      exact ⟨t, p, mm.2.1, rfl, by rw [key_of at_t]; exact at_t⟩
    have bq := bg fi5.but
    obtain ⟨qb, q0⟩ := But.free (But.refl b G5) bq nq
    have c6 : But b G5 (upd G5 q (.lst ys)) := (But.refl b G5).new nq
    refine ⟨q, ys, rfl, .inl ⟨SqL.of upd_same, fun l nl => ?_⟩⟩
    have c7 := c6.new (o := .tup ys) nl
    have fi7 := fi5.step lone c7
    obtain ⟨lb7, l6⟩ := But.free c6 (bq.but c6) nl
    have b7 := c7.1 _ _ lone.bb b1
    refine ⟨_, rfl, _, rfl, b, pb, bv, rfl, bg fi7.but, SqL.of b7, lone.bb, ?_, fun G8 q2 zs but8 bag8 q20 q2b at_q2 perm2 => ?_⟩
    · have := fi7.len_b b7
      omega
    refine ⟨q2, zs, rfl, .inl ⟨SqL.of at_q2, fun l2 nl2 => ?_⟩⟩
    have c9 : But b G8 (upd G8 l2 (.tup zs)) := (But.refl b G8).new nl2
    obtain ⟨l2b, _⟩ := But.free (But.refl b G8) bag8 nl2
    refine ⟨_, rfl, len_line (by show 3 ≤ 100000; decide), fun r nr => ?_⟩
    have bag9 := bag8.but c9
    have c10 : But b (upd G8 l2 (.tup zs)) (upd (upd G8 l2 (.tup zs)) r (.tup [.ref l, .ref l2, .str fl])) := (But.refl b _).new nr
    obtain ⟨rb, _⟩ := But.free (But.refl b _) bag9 nr
    have sEnd : But b G1 (upd (upd G8 l2 (.tup zs)) r (.tup [.ref l, .ref l2, .str fl])) := ((fi7.but.trans but8).trans c9).trans c10
    have r0 : H r = none := (But.free ((but1.trans fi7.but).trans (but8.trans c9)) bag9 nr).2
    obtain ⟨ms2, pm, at_ys⟩ := f2.perm perm
    obtain ⟨bs3, pbs, at_zs⟩ := dats_perm perm2 b2
    have up5 : ∀ p o, dls [b, pf, pb, pj] G5 p = some o → del (upd (upd G8 l2 (.tup zs)) r (.tup [.ref l, .ref l2, .str fl])) b p = some o := fun p o e => by
      obtain ⟨n, e1⟩ := dls_sub p o e
      have pb' : p ≠ b := fun z => n (by rw [z]; simp)
      rw [del_ne pb']
      exact (((c7.trans but8).trans c9).trans c10).1 _ _ pb' e1
    have at_l : del (upd (upd G8 l2 (.tup zs)) r (.tup [.ref l, .ref l2, .str fl])) b l = some (.tup ys) := by
      rw [del_ne lb7]
      exact ((but8.trans c9).trans c10).1 _ _ lb7 upd_same
    have at_l2 : del (upd (upd G8 l2 (.tup zs)) r (.tup [.ref l, .ref l2, .str fl])) b l2 = some (.tup zs) := by
      rw [del_ne l2b]
      exact c10.1 _ _ l2b upd_same
    have mem2 : ∀ m, m ∈ ms2 ↔ m ∈ ms' := fun m => pm.mem_iff
    have bmem : ∀ m, m ∈ bs3 ↔ m ∈ bs2 := fun m => pbs.mem_iff
    have names2 : (ms2.map (·.1)).Perm (fl :: ns) := by
      rw [← fi5.names]
      exact pm.map _
    refine fin _ r ⟨ms2, bs3, fl⟩ (but1.trans sEnd) r0 rb ?_ ⟨?_, fun m x => fi5.msok m ((mem2 m).mp x), ?_, hfl, ⟨pace, (mem2 _).mpr fi5.paced, p0, p1⟩, ?_, ?_, ?_, ?_⟩ ?_
    · refine .tup (.inl (.inl (dt_at rb upd_same))) (.cons (.tup (.inl (.inl at_l)) (DatAll.up up5 at_ys.dats)) (.cons (.tup (.inl (.inl at_l2)) (DatAll.up up5 at_zs)) (.cons (.str _) .nil)))
    · have keys2 : ys.map (keyAt G5) = ms2.map (·.1) := at_ys.keys
      show (ms2.map (·.1)).Pairwise fun x y => ahead x y = true
      rw [← keys2, List.pairwise_map]
      have nd2 : (ys.map (keyAt G5)).Nodup := by
        rw [keys2]
        exact names2.nodup_iff.mpr ndk
      have both : ys.Pairwise fun x y => ahead (keyAt G5 y) (keyAt G5 x) = false ∧ keyAt G5 x ≠ keyAt G5 y := List.Pairwise.and asc (List.pairwise_map.mp nd2)
      exact both.imp fun h => ahead_total h.1 h.2
    · intro m x
      have : m.1 ∈ fl :: ns := names2.mem_iff.mp (List.mem_map.mpr ⟨m, x, rfl⟩)
      cases this with
      | head => exact .inl rfl
      | tail _ h => exact .inr (sub _ h)
    · intro m x
      obtain ⟨h1, h2, h3, h4⟩ := fi5.bsok m ((bmem m).mp x)
      exact ⟨h1, names2.mem_iff.mpr h2, names2.mem_iff.mpr h3, h4⟩
    · intro m x
      have : m.1 ∈ fl :: ns := names2.mem_iff.mp (List.mem_map.mpr ⟨m, x, rfl⟩)
      exact (fi5.join _ this).more fun z y => (bmem z).mpr y
    · show ms2.length ≤ 9
      rw [pm.length_eq]
      omega
    · show bs3.length ≤ 10
      rw [pbs.length_eq]
      omega
    · show ms2.length = many + 1
      rw [pm.length_eq, msl]
end
end K29

namespace K29
open PySem PySem.Spec PyProof.Rows L2 Vd Evl
/-! ### texts within bounds, wherever they stand in tuples -/
mutual
def txt : PyData → Bool
  | .str x => decide (x.length ≤ 1000000) && x.cps.toList.all fun c => decide (c < 0x110000)
  | .tuple xs => txts xs
  | _ => true
def txts : List PyData → Bool
  | [] => true
  | x :: xs => txt x && txts xs
end
/-! ### how great a thing is -/
mutual
def small : PyData → Bool
  | .int i => decide (i.natAbs < 2 ^ 400)
  | .tuple xs => smalls xs
  | _ => true
def smalls : List PyData → Bool
  | [] => true
  | x :: xs => small x && smalls xs
end
structure Fit (W D : Nat) (d : PyData) : Prop where
  nice : nice d = true
  txt : txt d = true
  small : small d = true
  wgt : wgt d ≤ W
  deep : d.depth ≤ D
theorem Fit.of {W D : Nat} {d : PyData} (h : (Vd.nice d && K29.txt d && K29.small d && decide (Vd.wgt d ≤ W) && decide (d.depth ≤ D)) = true) : Fit W D d := by
  simp only [Bool.and_eq_true, decide_eq_true_eq] at h
  exact ⟨h.1.1.1.1, h.1.1.1.2, h.1.1.2, h.1.2, h.2⟩
theorem Fit.more {W D W' D' : Nat} {d : PyData} (h : Fit W D d) (hw : W ≤ W') (hd : D ≤ D') : Fit W' D' d := ⟨h.nice, h.txt, h.small, Nat.le_trans h.wgt hw, Nat.le_trans h.deep hd⟩
theorem fits_parts {W D : Nat} : ∀ {ds : List PyData}, (∀ d ∈ ds, Fit W D d) → nices ds = true ∧ txts ds = true ∧ smalls ds = true ∧ wgts ds ≤ ds.length * (W + 2) ∧ PyData.depthAll ds ≤ D
  | [], _ => ⟨rfl, rfl, rfl, Nat.zero_le _, Nat.zero_le _⟩
  | d :: ds, h => by
    obtain ⟨a1, a2, a3, a4, a5⟩ := h d (.head _)
    obtain ⟨b1, b2, b3, b4, b5⟩ := fits_parts (ds := ds) fun e m => h e (.tail _ m)
    refine ⟨by simp [nices, a1, b1], by simp [txts, a2, b2], by simp [smalls, a3, b3], ?_, Nat.max_le.mpr ⟨a5, b5⟩⟩
    show Vd.wgt d + 2 + wgts ds ≤ (ds.length + 1) * (W + 2)
    rw [Nat.add_mul]
    omega
theorem Fit.tup {W D n : Nat} {ds : List PyData} (h : ∀ d ∈ ds, Fit W D d) (len : ds.length ≤ n) : Fit (n * (W + 2) + 4) (D + 1) (.tuple ds) := by
  obtain ⟨b1, b2, b3, b4, b5⟩ := fits_parts h
  refine ⟨by simpa [Vd.nice] using b1, by simpa [K29.txt] using b2, by simpa [K29.small] using b3, ?_, Nat.succ_le_succ b5⟩
  show wgts ds + 4 ≤ _
  have := Nat.mul_le_mul_right (W + 2) len
  omega
structure FitN (W D : Nat) (d : PyData) : Prop where
  fit : Fit W D d
  no : noList d = true
theorem FitN.of {W D : Nat} {d : PyData} (h : (Vd.nice d && K29.txt d && K29.small d && decide (Vd.wgt d ≤ W) && decide (d.depth ≤ D)) = true) (n : noList d = true) : FitN W D d := ⟨Fit.of h, n⟩
theorem FitN.more {W D W' D' : Nat} {d : PyData} (h : FitN W D d) (hw : W ≤ W') (hd : D ≤ D') : FitN W' D' d := ⟨h.fit.more hw hd, h.no⟩
theorem all_nil {α : Type} {p : α → Prop} : ∀ d ∈ ([] : List α), p d := fun _ m => nomatch m
theorem all_cons {α : Type} {p : α → Prop} {x : α} {l : List α} (a : p x) (r : ∀ d ∈ l, p d) : ∀ d ∈ x :: l, p d := fun d m => by
  cases m with
  | head => exact a
  | tail _ m => exact r d m
theorem noLists_of : ∀ {ds : List PyData}, (∀ d ∈ ds, noList d = true) → noLists ds = true
  | [], _ => rfl
  | d :: ds, h => by
    show (noList d && noLists ds) = true
    rw [h d (.head _), noLists_of fun e m => h e (.tail _ m)]
    rfl
theorem FitN.tup {W D n : Nat} {ds : List PyData} (h : ∀ d ∈ ds, FitN W D d) (len : ds.length ≤ n) : FitN (n * (W + 2) + 4) (D + 1) (.tuple ds) :=
  ⟨.tup (fun d m => (h d m).fit) len, noLists_of fun d m => (h d m).no⟩
end K29

namespace Vd
open PySem PySem.Spec PyProof.Rows L2

/-! ### errors as values: made, asked for their class, their fields read -/
section
variable {X : Cx} {e : Expr} {es : List Expr} {ta : TA} {p pos : Pos}
/-- C(e, ..), an own exception class with an own __init__; the error is a value -/
theorem pe_mkx {x : Str} {C fI : Addr} {k : Nat} {fd : FuncData} {ps : List Str} {sp : Sp} (T : OexC X.K C) (at_init : PySem.W.findIn X.K (.ref C) "__init__" = some (some (.ref fI))) (is_fn : PySem.W.typeIn X.K (.ref fI) = some (.type "function"))
    (ini : FnOk X.prog X.w X.K X.mg X.base CX0 k fI fd ps sp) (room : Room (k + 1) X.A) (bind : Binds X.K fd ps []) (hg : Gl X x) (hm : X.mg x = some (.ref C)) (ha : PA X (e :: es) ta)
    (nd : (x == ("__debug__" : Str)) = false := by decide) (he : starEach (e :: es) X.env = (false, eval e X.env) :: starEach es X.env := by rfl) (hp : (backTo pos (starEach es X.env)).any (·.1) = false := by rfl) :
    PE X (.Call (.Name x p) (e :: es) [] pos) (fun σ H Q => ta σ H fun vs H1 => vs.length ≤ 1000 ∧ ∀ a, H1 a = none → sp (.ref a :: vs) (upd H1 a (exo a C none)) (fun v H2 => v = .non ∧ Q (.ref a) H2) E0) := by
  constructor
  intro pins s σ H Q I h
  obtain ⟨nm, qn, N, bs, bm, sn, sub, ab, col, dd, k0, k1, k2, k3, k5, at_C, chain⟩ := T.cls
  refine wpAny_Call_Name_kw (ld_glob I hg hm ?_ nd)
  refine PySem.W.callWith_K (h₀ := X.base) I.ok.mod.kin T.kC (thn (ha.run pos pins s σ H _ I h) ?_) he hp
  rintro us s1 ⟨vs, H1, I1, rel, few, each⟩
  refine ⟨I1.kIn, ?_⟩
  show wpAny _ _ (call (.ref C) us) _ _ _
  obtain ⟨hp1, g, dr, tk, os⟩ := s1
  have none1 : H1 (hp1.objs.size + 1) = none := I1.hok.fresh (Nat.le_succ _)
  have prom := each (hp1.objs.size + 1) none1
  have J : Inv X pins σ (upd H1 (hp1.objs.size + 1) (exo (hp1.objs.size + 1) C none)) ⟨(hp1.push (PySem.W.kdv_tup us)).push (PySem.HandSPX.excO C hp1.objs.size), g, dr, tk, os⟩ :=
    I1.laid (t' := tk) (fun b o q => Heap.get?_push_of_some _ (Heap.get?_push_of_some _ q)) (Nat.le_succ _) (exo_ok (t1 := hp1.objs.size) (by heap_get))
  have rel2 : Vals (V.ref (hp1.objs.size + 1) :: vs) (Value.ref (hp1.objs.size + 1) :: us) := .cons rfl rel
  have len : (Value.ref (hp1.objs.size + 1) :: us).length = ps.length := by rw [← rel2.length]; exact ini.len _ _ _ _ prom
  have binds := bind ⟨(hp1.push (PySem.W.kdv_tup us)).push (PySem.HandSPX.excO C hp1.objs.size), g, dr, tk, os⟩ (Value.ref (hp1.objs.size + 1) :: us) J.kIn (by rw [List.append_nil]; exact len)
  rw [List.append_nil] at binds
  have line : us.length ≤ sizeLine := by rw [← Paired.length rel, sizeLine_eq]; omega
  refine wpAny_call (PySem.HandSPX.call_own PySem.F.excBase_ValueError (fun Y => PySem.HandSPX.refsVE_contains Y bm chain) (I1.kIn _ _ at_C) (PySem.W.looks_findIn I1.kIn at_init) (fun self => PySem.W.bind_fn I1.kIn self is_fn) line
    (codeAny_mono (ini.run _ X.stack _ _ ⟨Value.ref (hp1.objs.size + 1) :: us, []⟩ _ _ _ E0 (room.make C us []) (J.env0.make C us []) binds rel2 prom) fun r s2 got => ?_))
  match r, got with
  | .ok (.ret u), got =>
    obtain ⟨v, H2, J2, rv, ev, q⟩ := J.after got
    subst ev
    exact ⟨rv, V.ref (hp1.objs.size + 1), H2, J2, rfl, q⟩
  | .ok .next, no => exact no.elim
  | .ok .brk, no => exact no.elim
  | .ok .cont, no => exact no.elim
  | .error _, no => exact no.elim

/-- what isinstance and a read of a field ask of an own exception class -/
structure XC (K : PySem.W.Frag) (C : Addr) : Prop where
  cl : (PySem.W.clsIn K C).isSome = true
  ga : PySem.W.findIn K (.ref C) "__getattribute__" = some (some (.builtin "BaseException.__getattribute__"))
  gt : PySem.W.findIn K (.ref C) "__getattr__" = some none
  sub : PySem.W.subIn K (.ref C) (.type "BaseException") = some true
  ca : PySem.W.findIn K (.ref C) "__class__" = some (some (.builtin "object.__class__"))
  sp : PySem.W.specialIn K (.builtin "object.__class__") "__get__" = some (some (.builtin "getset_descriptor.__get__"))
  tk : PySem.W.takesIn K (.builtin "object.__class__") = some true
  mo : PySem.W.mroIn K C (.type "object") = some true
  hd : PySem.W.hasDictIn K C = true
/-- an error of the class C stands at a -/
def ErrAt (H : Hp) (a C : Addr) : Prop := H a = some (exo a C none) ∨ ∃ d fs, H a = some (exo a C (some d)) ∧ H d = some (exd d fs)
theorem err_inst {pins : List (Addr × Obj)} {σ : L2.St} {H : Hp} {s : Shared} {a C : Addr} (I : Inv X pins σ H s) (h : ErrAt H a C) : ∃ ox od, PySem.W.InstAt s.heap a ox C od := by
  rcases h with h | ⟨d, fs, h, hd⟩
  · obtain ⟨t1, at_a⟩ := exo_at I.hok h
    exact ⟨_, none, at_a, rfl, rfl, True.intro⟩
  · obtain ⟨t1, at_a⟩ := exo_at I.hok h
    obtain ⟨mA, ⟨o, _, _, at_d, _⟩, _⟩ := exd_at I.hok hd
    exact ⟨_, some o, at_a, rfl, rfl, at_d⟩
/-- isinstance(error, c) -/
theorem call_isX : CallR X (.builtin "isinstance") (fun xs H Q => ∃ (a C : Addr) (c : V) (cv : Value) (b : Bool), xs = [.ref a, c] ∧ XC X.K C ∧ ErrAt H a C ∧ (∀ u, RelV c u → u = cv) ∧ PySem.W.kitOne X.K (.ref C) cv = some b ∧ Q (.bl b) H) := by
  rintro pins s σ H xs us Q I r ⟨a, C, c, cv, b, rfl, T, err, one, kit, q⟩
  obtain ⟨u1, u2, rfl, r1, r2⟩ := vals2 r
  cases (show u1 = Value.ref a from r1)
  cases one u2 r2
  obtain ⟨ox, od, J⟩ := err_inst I err
  exact PySem.W.kia_one (PySem.W.kitx_exc T.cl T.ga T.gt T.sub T.ca T.sp T.tk T.mo) I.kIn J kit (fun no => nomatch no) fun tk => ⟨.bl b, H, I.tok tk, rfl, q⟩
/-- error.f -/
theorem pe_xfv {f : Str} {te : TE} (he : PE X e te) (hb : attributeBase e f X.env (eval e X.env) = eval e X.env := by rfl) :
    PE X (.Attribute e f pos) (fun σ H Q => te σ H fun x H1 => ∃ (a C d : Addr) (fs : List (Str × V)) (v : V), x = .ref a ∧ XC X.K C ∧ PySem.W.findIn X.K (.ref C) f = some none ∧ H1 a = some (exo a C (some d)) ∧ H1 d = some (exd d fs) ∧ fs.lookup f = some v ∧ Q v H1) := by
  constructor
  intro pins s σ H Q I h
  refine attr_of hb (thn (he.run pins s σ H _ I h) ?_)
  rintro u s1 ⟨x, H1, I1, rx, a, C, d, fs, v, rfl, T, no, at_a, at_d, look, q⟩
  cases (show u = Value.ref a from rx)
  obtain ⟨t1, e1⟩ := exo_at I1.hok at_a
  obtain ⟨mA, ns, each⟩ := exd_at I1.hok at_d
  obtain ⟨od, e2, looks⟩ := lookIn_ns ns
  obtain ⟨u, hu, ru⟩ := RelO.some_of (v := v) (o := mA f) (by rw [← look]; exact each f)
  have J : PySem.W.InstAt s1.heap a _ C (some od) := ⟨e1, rfl, rfl, e2⟩
  exact PySem.HandSPX.exc_get I1.kIn J T.ga T.gt T.sub (PySem.W.findObj_own T.hd no rfl (by rw [looks, hu])) (handed_of ru) ⟨v, H1, I1.tok _, ru, q⟩
end
end Vd

namespace Vd
open PySem PySem.Spec PyProof.Rows L2

/-! ### super().__init__() in an own error's __init__ -/
section
open PySem.W PySem.Calls
/-- def __init__(self): super().__init__() -/
def suBody (p0 p1 p2 p3 p4 : Pos) : List Stmt := [.Expr (.Call (.Attribute (.Call (.Name "super" p0) [] [] p1) "__init__" p2) [] [] p3) p4]
def suScope : Scope := { kind := .function, names := [(PySem.Str.ofString "self", .local), (PySem.Str.ofString "__class__", .free), (PySem.Str.ofString "super", .globalImplicit)], isGenerator := false, isCoroutine := false, more := [] }
def suArgs (p : Pos) : Arguments := { posonlyargs := [], args := [{ arg := "self", annotation := none, pos := p }], vararg := none, kwonlyargs := [], kw_defaults := [], kwarg := none, defaults := [] }
/-- how the method call super().__init__() is evaluated, at its place in the text -/
def SuCall (p0 p1 p2 p3 : Pos) : Prop := ∃ pl : Sem Bool, ∀ env : Env, eval (.Call (.Attribute (.Call (.Name "super" p0) [] [] p1) "__init__" p2) [] [] p3) env = (do
      let ov ← attributeBase (.Call (.Name "super" p0) [] [] p1) "__init__" env (eval (.Call (.Name "super" p0) [] [] p1) env)
      standAt p2.atName
      let (f, first) ← holding [ov] (getMethod ov "__init__" pl)
      callWith p3 f first (backTo p3 (starEach [] env)) [])
/-- what the written part says of such a class, at C, and its __init__ -/
structure SuC (P : Program) (K : Frag) (mg : Str → Option Value) (C fI : Addr) : Prop where
  oex : OexC K C
  init : findIn K (.ref C) "__init__" = some (some (.ref fI))
  isf : typeIn K (.ref fI) = some (.type "function")
  sup : mg "super" = none
  nos : nsIn K cStatics "thirdparty.any" = some none
  along : ks_superIn K C C "__init__" = some (some (.builtin "ValueError.__init__"))
  ve : subIn K (.ref C) (.type "ValueError") = some true
  own : mroIn K C (.ref C) = some true
  some_cls : (clsIn K C).isSome = true
  def_ : ∃ (qual : Str) (oc : Value) (od an : Option Addr) (kV doc pm ct : Value) (osl : Array (Option Value)) (cda cc : Addr) (pA p0 p1 p2 p3 p4 : Pos),
    SuCall p0 p1 p2 p3 ∧ K.lookup fI = some ⟨oc, od, .func (ksFn "__init__" qual (suArgs pA) (suBody p0 p1 p2 p3 p4) suScope .none kV doc pm an (.ref cda) ct cc), osl⟩ ∧ codeIn K (.ref cda) qual = true ∧
    (∃ (ccl : Value) (cdd : Option Addr) (vs : Array Value) (ccs : Array (Option Value)) (file : Str) (tf : Tok), K.lookup cda = some ⟨ccl, cdd, .fields vs, ccs⟩ ∧ vs[2]? = some (.str file tf) ∧ ((P.main.file : Str) == file) = true) ∧
    ∃ (cl : Value) (cld : Option Addr) (csl : Array (Option Value)), K.lookup cc = some ⟨cl, cld, .cell (some (.ref C)), csl⟩
  top : (P.main.scope.names.lookup ("super" : Str)).isSome = false
variable {prog : Program} {w : World} {A : Around} {R : Result → Shared → Prop} {s : Shared} {K : Frag} {mg : Str → Option Value} {C fI x t0 : Addr}
/-- ValueError.__init__ bound to an error, called without arguments -/
theorem call_bound {E : Value → Shared → Prop} {h : Heap} {g : Array GenState} {d : Drawn} {t : Nat} {os : OsState} {u : Addr} {Q : Value → Shared → Prop} {nm q : Str} {N : Addr} {bs bm : List Value} {hdct : Bool} {sn : List Str} {sub : List Value} {ab : Bool} {col : Option Bool} {dd : Option Addr} {k0 k1 k2 k3 k5 : Option Value}
    (at_C : h.get? C = some (excClassObj nm q C N bs bm hdct sn sub ab col dd k0 k1 k2 k3 k5 "ValueError.__new__")) (at_x : h.get? x = some (HandSPX.excO C t0)) (at_u : h.get? u = some (kxs_mw "ValueError.__init__" x))
    (hq : ∀ h' t1, (∀ b o, b ≠ x → h.get? b = some o → h'.get? b = some o) → h'.get? x = some (HandSPX.excO C t1) → Q .none ⟨h', g, d, t, os⟩) :
    wpAny (model prog w) A (call (.ref u) []) Q E ⟨h, g, d, t, os⟩ := by
  refine wpAny_call (codeAny_of_tree ?_)
  show wpAny _ A.in1 (callAny (.ref u) ⟨[], []⟩) _ _ _
  unfold callAny
  refine wpAny_bind (wpAny_load at_u ?_)
  have kind : (Value.type "method-wrapper" == Value.type "method" || Value.type "method-wrapper" == Value.type "builtin_function_or_method" || Value.type "method-wrapper" == Value.type "method-wrapper") = true := by decide
  simp only [kxs_mw, kind, if_true]
  refine KFB.if_so (by decide) ?_
  refine wpAny_bind (check_bound_init PySem.F.excBase_ValueError.toExcCallFacts at_C at_x rfl ?_)
  refine wpAny_bind (wpAny_pure (wpAny_pure ⟨plainId_quiet PySem.F.excBase_ValueError.init.plain _, codeAny_builtin PySem.F.excBase_ValueError.initEntry ?_⟩))
  exact exc_init_tree (cls := .ref C) (t0 := t0) (dv := none) (c2 := .none) (c3 := .none) (b4 := .bool false) at_x (Nat.zero_le _) fun h' keep at_x' _ => hq h' _ keep at_x'
theorem super_init (T : SuC prog K mg C fI) (X : K.In s.heap) (G : s.heap.Ns mainGlobals mg) (B : ∃ mb, s.heap.Ns builtinsNs mb ∧ ∀ y : Str, y ≠ "__name__" → mb y = bootBuiltins y) (lim : s.heap.NoLimit) (room : A.depth < recursionLimit)
    (at_x : s.heap.get? x = some (HandSPX.excO C t0)) (hq : ∀ h' t1 tk, (∀ b o, b ≠ x → s.heap.get? b = some o → h'.get? b = some o) → h'.get? x = some (HandSPX.excO C t1) → R (.ok (.ret .none)) { s with heap := h', toks := tk }) :
    codeAny (model prog w) A (.call (.ref fI) ⟨[.ref x], []⟩) R s := by
  obtain ⟨qual, oc, od, an, kV, doc, pm, ct, osl, cda, cc, pA, p0, p1, p2, p3, p4, ⟨pl, how⟩, at_f, code, ⟨ccl, cdd, vs, ccs, file, tf, at_c, at2, same⟩, cl, cld, csl, at_cc⟩ := T.def_
  obtain ⟨nm, qn, N, bs, bm, sn, sub, ab, col, dd, k0, k1, k2, k3, k5, at_C, chain⟩ := T.oex.cls
  obtain ⟨cd, hcd⟩ := Option.isSome_iff_exists.mp T.some_cls
  obtain ⟨mb, Bn, Bv⟩ := B
  refine ks_codeAny_call_defAt (binds := [("self", .ref x)]) room (X _ _ at_f) rfl lim (codeRec_of X code) rfl (BindsTo.of_eq rfl) (show ∀ y ∈ suScope.names, y.2 ≠ .cell by decide) (by intro y hy; cases List.mem_singleton.mp hy; rfl) fun h1 ns keep => ?_
  have X1 : K.In h1 := X.keeps keep
  have G1 := G.keeps keep
  have B1 := Bn.keeps keep
  obtain ⟨hp, g, d, t, os⟩ := s
  have at_x1 := keep _ _ at_x
  refine ks_wpAt_execs_cons (ks_wpAt_Expr_any (ks_wpAt_MethodCall (pl := pl) ?_ (how _)))
  refine ks_wpAt_super_base rfl rfl (by decide) rfl (X1 _ _ at_f) rfl (by rfl) rfl (X1 _ _ at_c) rfl at2 same T.top ?_
  refine ks_loadName_global rfl rfl (loadGlobal_builtin G1 T.sup B1 ((Bv _ (by decide +kernel)).trans (show bootBuiltins "super" = some (.type "super") from PyProof.Rows.Boot.«super»)) ⟨rfl, ?_⟩)
  refine wpAny_loadName_free rfl rfl rfl ⟨_, X1 _ _ at_cc, rfl⟩ ?_
  refine wpAny_loadName_local rfl rfl ns rfl ?_
  refine ks_wpAny_isType_cls (X1 _ _ at_C) rfl ⟨rfl, ?_⟩
  refine ks_wpAny_call_super (X1 _ _ at_C) rfl at_x1 rfl (fun c no => nomatch no) (looks_mroIn X1 T.own) fun h2 at_so keep2 => ?_
  have X2 : K.In h2 := X1.keeps keep2
  have at_x2 := keep2 _ _ at_x1
  have J : InstAt h2 x (HandSPX.excO C t0) C none := ⟨at_x2, rfl, rfl, True.intro⟩
  have ss := T.along
  unfold ks_superIn at ss
  rw [hcd] at ss
  refine kxs_getMethod kxs_ValueError at_so (looks_opaque X2 T.nos) (l₀ := cd.mro) (fun A' Q' E' s' k q => wpAny_bind ((looks_clsIn X2 hcd) A' _ E' s' k (wpAny_pure q))) rfl X2 ss (J.type.andThen (looks_subIn X2 T.ve)) (ks_ne X2 J hcd) (by decide) ?_
  have at_u : (h2.push (kxs_mw "ValueError.__init__" x)).get? h2.objs.size = some (kxs_mw "ValueError.__init__" x) := Heap.get?_push_at rfl rfl
  refine kxs_callWith (i := "ValueError.__init__") (x := x) rfl (evalArgs_empty ⟨at_u, ?_⟩)
  refine call_bound (Heap.get?_push_of_some _ (X2 _ _ at_C)) (Heap.get?_push_of_some _ at_x2) at_u fun h3 t1 keep3 at_x3 => ?_
  refine wpAt_of_wpAny (wpAny_execs_nil ?_)
  exact hq h3 t1 _ (fun b o ne e => keep3 b o ne (Heap.get?_push_of_some _ (keep2 _ _ (keep _ _ e)))) at_x3
end

section
variable {X : Cx} {p pos : Pos}
/-- C(), an own exception class whose __init__ only calls the one above -/
theorem pe_mks {x : Str} {C fI : Addr} {k : Nat} (T : SuC X.prog X.K X.mg C fI) (room : Room (k + 1) X.A) (hg : Gl X x) (hm : X.mg x = some (.ref C)) (nd : (x == ("__debug__" : Str)) = false := by decide) :
    PE X (.Call (.Name x p) [] [] pos) (fun _ H Q => ∀ a, H a = none → Q (.ref a) (upd H a (exo a C none))) := by
  constructor
  intro pins s σ H Q I h
  obtain ⟨nm, qn, N, bs, bm, sn, sub, ab, col, dd, k0, k1, k2, k3, k5, at_C, chain⟩ := T.oex.cls
  refine wpAny_Call_Name_kw (ld_glob I hg hm ?_ nd)
  refine PySem.W.callWith_K0 I.kIn T.oex.kC ?_
  show wpAny _ _ (call (.ref C) []) _ _ _
  obtain ⟨hp, g, dr, tk, os⟩ := s
  have none1 : H (hp.objs.size + 1) = none := I.hok.fresh (Nat.le_succ _)
  have fin := h (hp.objs.size + 1) none1
  have J : Inv X pins σ (upd H (hp.objs.size + 1) (exo (hp.objs.size + 1) C none)) ⟨(hp.push (PySem.W.kdv_tup [])).push (PySem.HandSPX.excO C hp.objs.size), g, dr, tk, os⟩ :=
    I.laid (t' := tk) (fun b o q => Heap.get?_push_of_some _ (Heap.get?_push_of_some _ q)) (Nat.le_succ _) (exo_ok (t1 := hp.objs.size) (by heap_get))
  have deep := (room.make C [] []).depth
  refine wpAny_call (PySem.HandSPX.call_own PySem.F.excBase_ValueError (fun Y => PySem.HandSPX.refsVE_contains Y bm chain) (I.kIn _ _ at_C) (PySem.W.looks_findIn I.kIn T.init) (fun self => PySem.W.bind_fn I.kIn self T.isf) (Nat.zero_le _)
    (super_init (t0 := hp.objs.size) T J.kIn (J.mod.glob.keeps J.bk) ?_ J.nolimit deep (by heap_get) fun h' t1 tk' keep at_x => ?_))
  · obtain ⟨mb, b1, b2⟩ := J.mod.blt
    exact ⟨mb, b1.keeps J.bk, b2⟩
  · have J2 := J.write (t' := tk') (x := hp.objs.size + 1) (e := hp.objs.size + 1) (o := exo (hp.objs.size + 1) C none) (by rw [upd_same]; exact True.intro) (.inl rfl) keep ⟨_, at_x⟩ (exo_ok at_x)
    rw [upd_upd] at J2
    exact ⟨rfl, V.ref (hp.objs.size + 1), _, J2, rfl, fin⟩
end
end Vd

namespace Vd
open PySem PySem.Spec PyProof.Rows L2

/-! ### data that an expression makes anew -/
/-- F is a part of G, none of which stood in H -/
def Sub (F H G : Hp) : Prop := ∀ p o, F p = some o → H p = none ∧ G p = some o
def newP (H G : Hp) : Hp := fun p => if (H p).isNone then G p else none
theorem newP_sub (H G : Hp) : Sub (newP H G) H G := fun p o e => by
  unfold newP at e
  split at e
  · rename_i h
    exact ⟨Option.isNone_iff_eq_none.mp h, e⟩
  · cases e
theorem newP_of {H G : Hp} {p : Addr} {o : HO} (h : H p = none) (e : G p = some o) : newP H G p = some o := by
  unfold newP
  rw [if_pos (Option.isNone_iff_eq_none.mpr h)]
  exact e
theorem newP_none {H G : Hp} {p : Addr} (n : G p = none) : newP H G p = none := by
  cases e : newP H G p with
  | none => rfl
  | some o =>
    have := (newP_sub H G p o e).2
    rw [n] at this
    cases this
theorem sub_newP {F H G : Hp} (s : Sub F H G) : ∀ p o, F p = some o → newP H G p = some o := fun p o e => by
  unfold newP
  rw [if_pos (Option.isNone_iff_eq_none.mpr (s p o e).1)]
  exact (s p o e).2
theorem newP_up {H G G' : Hp} (s : Same G G') : ∀ p o, newP H G p = some o → newP H G' p = some o := fun p o e =>
  sub_newP (F := newP H G) (fun p o e => ⟨(newP_sub H G p o e).1, s p o (newP_sub H G p o e).2⟩) p o e
/-- made at σ from what stood in H: the data d | the rows of data ds -/
def Mk0 (K : PySem.W.Frag) (H : Hp) (σ : L2.St) (te : TE) (d : PyData) : Prop := ∀ G, Same H G → ∀ Q : VK, (∀ v G', Same G G' → Dat K (newP H G') v d → Q v G') → te σ G Q
def MkA (K : PySem.W.Frag) (H : Hp) (σ : L2.St) (ta : TA) (ds : List PyData) : Prop := ∀ G, Same H G → ∀ Q : List V → Hp → Prop, (∀ vs G', Same G G' → DatAll K (newP H G') vs ds → vs.length = ds.length → Q vs G') → ta σ G Q
section
variable {K : PySem.W.Frag} {H : Hp} {σ : L2.St}
theorem mk_int (i : Int) : Mk0 K H σ (tC (.int i)) (.int i) := fun G _ Q q => q _ G (Same.refl G) (.int i)
theorem mk_str (x : Str) : Mk0 K H σ (tC (.str x)) (.str x) := fun G _ Q q => q _ G (Same.refl G) (.str x)
theorem mk_bl (b : Bool) : Mk0 K H σ (tC (.bl b)) (.bool b) := fun G _ Q q => q _ G (Same.refl G) (.bl b)
theorem mk_non : Mk0 K H σ (tC .non) .none := fun G _ Q q => q _ G (Same.refl G) .non
theorem mk_neg (i : Int) : Mk0 K H σ (tUn (rU fun i => .int (-i)) (tC (.int i))) (.int (-i)) := fun G _ Q q => ⟨i, rfl, q _ G (Same.refl G) (.int (-i))⟩
theorem mk_pow {i j : Int} (h : CPow i j) : Mk0 K H σ (tOp (rI CPow fun i j => .int (i ^ j.toNat)) (tC (.int i)) (tC (.int j))) (.int (i ^ j.toNat)) := fun G _ Q q => ⟨i, j, rfl, rfl, h, q _ G (Same.refl G) (.int _)⟩
theorem mka_nil : MkA K H σ tNil [] := fun G _ Q q => q [] G (Same.refl G) .nil rfl
theorem mka_cons {te : TE} {ta : TA} {d : PyData} {ds : List PyData} (a : Mk0 K H σ te d) (b : MkA K H σ ta ds) : MkA K H σ (tCons te ta) (d :: ds) := fun G s Q q =>
  a G s _ fun v G1 s1 h1 => b G1 (s.trans s1) _ fun vs G2 s2 h2 len => q (v :: vs) G2 (s1.trans s2) (.cons (Dat.up (newP_up s2) h1) h2) (by rw [List.length_cons, List.length_cons, len])
theorem line1000 {n : Nat} (h : n ≤ 1000) : n ≤ sizeLine := Nat.le_of_lt (small1000 h)
theorem newP_at {G : Hp} {p : Addr} {o : HO} (s : Same H G) (n : G p = none) : newP H (upd G p o) p = some o := by
  unfold newP
  rw [if_pos (Option.isNone_iff_eq_none.mpr (s.free n)), upd_same]
theorem same_upd1 {G : Hp} {p : Addr} {o : HO} (n : G p = none) : Same G (upd G p o) := fun b x e => by
  rw [upd_ne (ne_of_none e n)]
  exact e
theorem mk_tup {ta : TA} {ds : List PyData} (a : MkA K H σ ta ds) (few : ds.length ≤ 1000) : Mk0 K H σ (tTup ta) (.tuple ds) := fun G s Q q =>
  a G s _ fun vs G1 s1 h len => ⟨line1000 (by omega), fun p np => q _ _ (s1.trans (same_upd1 np)) (.tup (.inl (.inl (newP_at (s.trans s1) np))) (DatAll.up (newP_up (same_upd1 np)) h))⟩
theorem mk_lst {ta : TA} {ds : List PyData} (a : MkA K H σ ta ds) (few : ds.length ≤ 1000) : Mk0 K H σ (tLst ta) (.list ds) := fun G s Q q =>
  a G s _ fun vs G1 s1 h len => ⟨line1000 (by omega), fun p np => q _ _ (s1.trans (same_upd1 np)) (.lst (.inl (.inl (newP_at (s.trans s1) np))) (DatAll.up (newP_up (same_upd1 np)) h))⟩
theorem mk_dic0 : Mk0 K H σ tDNewK (.dict []) := fun G s Q q => fun p np => q _ _ (same_upd1 np) (.dic (newP_at s np) .nil)
/-- a dict of one entry -/
theorem mk_dic1 {te : TE} {k : Key} {d : PyData} (a : ∀ G, Mk0 K G σ te d) : Mk0 K H σ (tDisp [(tC (kV k), te)]) (.dict [(keyD k, d)]) := fun G s Q q => fun p np =>
  a (upd G p (.dK [])) (upd G p (.dK [])) (Same.refl _) _ fun v G1 s1 h => by
    have at_p : G1 p = some (.dK []) := s1 _ _ upd_same
    refine ⟨at_p, [(k, v)], rfl, by show 1 ≤ 15; decide, ?_⟩
    have here : newP H (upd G1 p (.dK (mergeK [] [(k, v)]))) p = some (.dK [(k, v)]) := by
      unfold newP
      rw [if_pos (Option.isNone_iff_eq_none.mpr (s.free np)), upd_same]
      rfl
    refine q _ _ (fun b o e => ?_) (.dic here (.cons (Dat.up (fun b o e => ?_) h) .nil))
    · have ne : b ≠ p := ne_of_none e np
      rw [upd_ne ne]
      exact s1 _ _ (by rw [upd_ne ne]; exact e)
    · obtain ⟨e1, e2⟩ := newP_sub _ _ b o e
      have ne : b ≠ p := fun z => by
        rw [z, upd_same] at e1
        cases e1
      rw [upd_ne ne] at e1
      refine newP_of ?_ (by rw [upd_ne ne]; exact e2)
      cases z : H b with
      | none => rfl
      | some x =>
        rw [s _ _ z] at e1
        cases e1
/-! ### what one of several made things is: a list whose items stand elsewhere, or data without a list on top -/
def isListD : PyData → Bool
  | .list _ => true
  | _ => false
/-- v, made since H, in G: the data d -/
def Item (K : PySem.W.Frag) (H G : Hp) (v : V) (d : PyData) : Prop :=
  (∃ (a : Addr) (xs : List V) (ds : List PyData) (F : Hp), v = .ref a ∧ d = .list ds ∧ H a = none ∧ G a = some (.lst xs) ∧ Sub F H G ∧ F a = none ∧ DatAll K F xs ds) ∨ (isListD d = false ∧ Dat K (newP H G) v d)
theorem Item.up {G G' : Hp} {v : V} {d : PyData} (s : Same G G') (h : Item K H G v d) : Item K H G' v d := by
  rcases h with ⟨a, xs, ds, F, e1, e2, e3, e4, e5, e6, e7⟩ | ⟨e1, e2⟩
  · exact .inl ⟨a, xs, ds, F, e1, e2, e3, s _ _ e4, fun p o e => ⟨(e5 p o e).1, s _ _ (e5 p o e).2⟩, e6, e7⟩
  · exact .inr ⟨e1, Dat.up (newP_up s) e2⟩
def MkI (K : PySem.W.Frag) (H : Hp) (σ : L2.St) (te : TE) (I : PyData → Prop) : Prop := ∀ G, Same H G → ∀ Q : VK, (∀ v G' d, Same G G' → Item K H G' v d → I d → Q v G') → te σ G Q
def MkIs (K : PySem.W.Frag) (H : Hp) (σ : L2.St) (ta : TA) (n : Nat) (I : PyData → Prop) : Prop :=
  ∀ G, Same H G → ∀ Q : List V → Hp → Prop, (∀ vs G', Same G G' → vs.length = n → (∀ v ∈ vs, ∃ d, Item K H G' v d ∧ I d) → Q vs G') → ta σ G Q
theorem mki_dat {te : TE} {d : PyData} {I : PyData → Prop} (h : Mk0 K H σ te d) (no : isListD d = false) (i : I d) : MkI K H σ te I := fun G s Q q => h G s _ fun v G1 s1 dat => q v G1 d s1 (.inr ⟨no, dat⟩) i
theorem mki_lst {ta : TA} {ds : List PyData} {I : PyData → Prop} (h : MkA K H σ ta ds) (few : ds.length ≤ 1000) (i : I (.list ds)) : MkI K H σ (tLst ta) I := fun G s Q q =>
  h G s _ fun vs G1 s1 dat len => ⟨line1000 (by omega), fun p np => q _ _ _ (s1.trans (same_upd1 np))
    (.inl ⟨p, vs, ds, newP H G1, rfl, rfl, (s.trans s1).free np, upd_same, fun b o e => ⟨(newP_sub _ _ b o e).1, same_upd1 np _ _ (newP_sub _ _ b o e).2⟩, newP_none np, dat⟩) i⟩
theorem mkis_nil {I : PyData → Prop} : MkIs K H σ tNil 0 I := fun G _ Q q => q [] G (Same.refl G) rfl fun v m => nomatch m
theorem mkis_cons {te : TE} {ta : TA} {n : Nat} {I : PyData → Prop} (a : MkI K H σ te I) (b : MkIs K H σ ta n I) : MkIs K H σ (tCons te ta) (n + 1) I := fun G s Q q =>
  a G s _ fun v G1 d s1 it id => b G1 (s.trans s1) _ fun vs G2 s2 len each => q (v :: vs) G2 (s1.trans s2) (by rw [List.length_cons, len]) fun u m => by
    rcases List.mem_cons.mp m with e | m
    · subst e
      exact ⟨d, it.up s2, id⟩
    · exact each u m
end
end Vd

namespace K29
open PySem PySem.Spec PyProof.Rows L2 Vd Evl
abbrev sOdd : Stmt := topS 26
theorem scOdd : FnScope ["bag", "some"] ["bag"] (defScope sOdd) := ⟨rfl, rfl, rfl, by decide +kernel, rfl, by decide +kernel, by decide +kernel⟩
def Odd (d : PyData) : Prop := Fit 8000 3 d
theorem oddD {d : PyData} (h : (Vd.nice d && K29.txt d && K29.small d && decide (Vd.wgt d ≤ 8000) && decide (d.depth ≤ 3)) = true) : Odd d := Fit.of h
theorem Item.upF {K : PySem.W.Frag} {H G G' : Hp} {v : V} {d : PyData} (s : ∀ p o, H p = none → G p = some o → G' p = some o) (h : Item K H G v d) : Item K H G' v d := by
  rcases h with ⟨a, xs, ds, F, e1, e2, e3, e4, e5, e6, e7⟩ | ⟨e1, e2⟩
  · exact .inl ⟨a, xs, ds, F, e1, e2, e3, s _ _ e3 e4, fun p o e => ⟨(e5 p o e).1, s _ _ (e5 p o e).1 (e5 p o e).2⟩, e6, e7⟩
  · exact .inr ⟨e1, Dat.up (fun p o e => newP_of (newP_sub H G p o e).1 (s _ _ (newP_sub H G p o e).1 (newP_sub H G p o e).2)) e2⟩
section
variable {P : Program} {w : World} {K : PySem.W.Frag} {mg : Str → Option Value} {base : Heap}
def spOdd (K : PySem.W.Frag) : Sp := fun vs H Q _ => ∃ b : Addr, vs = [.ref b] ∧ BagAt H b ∧ ∀ H' v d, But b H H' → BagAt H' b → Item K H H' v d → Odd d → Q v H'
theorem BagAt.same {H G : Hp} {b : Addr} (x : BagAt H b) (s : Same H G) : BagAt G b := by
  obtain ⟨x, y, z, c, ns, e1, e2, few⟩ := x
  exact ⟨x, y, z, c, ns, s _ _ e1, s _ _ e2, few⟩
theorem BagAt.some_ {H : Hp} {b : Addr} (x : BagAt H b) : ∃ o, H b = some o := let ⟨_, _, _, _, _, e, _⟩ := x; ⟨_, e⟩
theorem lst_is {ta : TA} {n : Nat} {I : PyData → Prop} {σ : L2.St} {H0 H : Hp} (h : MkIs K H0 σ ta n I) (s : Same H0 H) (few : n ≤ 1000) {Q : VK}
    (q : ∀ xs G p, Same H G → xs.length = n → (∀ v ∈ xs, ∃ d, Item K H0 G v d ∧ I d) → G p = none → Q (.ref p) (upd G p (.lst xs))) : tLst ta σ H Q :=
  h H s _ fun xs G s1 len each => ⟨line1000 (by omega), fun p np => q xs G p s1 len each np⟩
theorem set_lst {ta : TA} {n : Nat} {I : PyData → Prop} {σ : L2.St} {H : Hp} {u : TS} {D : Ends} {i : Nat} (h : MkIs K H σ ta n I) (few : n ≤ 1000)
    (q : ∀ xs G p, Same H G → xs.length = n → (∀ v ∈ xs, ∃ d, Item K H G v d ∧ I d) → G p = none → u D (σ.set i (some (.ref p))) (upd G p (.lst xs))) : tSeq (tAsg (tLst ta) (gName i)) u D σ H :=
  lst_is (Q := fun v H1 => u D (σ.set i (some v)) H1) h (Same.refl H) few q
theorem ok_odd {f fT fS : Addr} {fd fdT fdS : FuncData} (F : At K mg "_law_odd" sOdd ["bag"] f fd) (T : At K mg "_law_take" sTake ["bag", "many"] fT fdT) (S : At K mg "_law_some" sSome ["bag", "things"] fS fdS) (mi : mg "int" = none) (ml : mg "len" = none) :
    FnOk P w K mg base CX0 3 f fd ["bag"] (spOdd K) := by
  have GS : FnOk P w K mg base CX0 2 fS fdS ["bag", "things"] (spSome K) := ok_some S T mi ml
  refine F.fn.ok scOdd (fun vs H Q E h => ?_) (fun cdv A outer s H vs Q E hr h => ?_)
  · obtain ⟨b, rfl, _⟩ := h
    rfl
  · obtain ⟨b, rfl, bag, fin⟩ := h
    have nd := scOdd.nd
    refine ⟨_, pss_cons (ps_set (i := 1) nd rfl (Or.inl rfl) (pe_lst (pa_cons pe_non (pa_cons pe_bl (pa_cons pe_bl (pa_cons pe_int (pa_cons pe_int (pa_cons (pe_un un_neg pe_int) (pa_cons (pe_op op_pow pe_int pe_int) (pa_cons pe_str (pa_cons pe_str (pa_cons pe_str
        (pa_cons (pe_tup pa_nil) (pa_cons (pe_lst pa_nil) (pa_cons pe_dnewK (pa_cons (pe_tup (pa_cons pe_int pa_nil)) (pa_cons (pe_tup (pa_cons pe_str pa_nil)) (pa_cons (pe_tup (pa_cons pe_str (pa_cons (pe_tup pa_nil) pa_nil))) (pa_cons (pe_tup (pa_cons pe_int (pa_cons pe_int pa_nil))) pa_nil)))))))))))))))))))
      (pss_one (ps_ret (pe_call GS hr (by rfl) S.g S.fn.kp S.b .nil pass0 (pa_cons (pv 0) (pa_cons (pe_op op_cat (pv 1) (pe_lst
        (pa_cons (pe_lst (pa_cons pe_str (pa_cons (pe_tup pa_nil) pa_nil))) (pa_cons (pe_tup (pa_cons pe_str (pa_cons pe_int pa_nil)))
        (pa_cons (pe_disp (pps_cons pe_str (pe_tup (pa_cons pe_int pa_nil)) pps_nil) (by rfl) (by rfl) (fun z => by cases z) (by decide))
        (pa_cons (pe_disp (pps_cons pe_int pe_int pps_nil) (by rfl) (by rfl) (fun z => by cases z) (by decide)) (pa_cons pe_str (pa_cons (pe_tup (pa_cons (pe_tup (pa_cons pe_str (pa_cons pe_str pa_nil))) pa_nil)) pa_nil)))))))) pa_nil))))), ?_⟩
    have first_ : MkIs K H [some (.ref b), none] _ 17 Odd := mkis_cons (mki_dat (mk_non) rfl (oddD (by decide +kernel)))
      (mkis_cons (mki_dat (mk_bl true) rfl (oddD (by decide +kernel)))
      (mkis_cons (mki_dat (mk_bl false) rfl (oddD (by decide +kernel)))
      (mkis_cons (mki_dat (mk_int 0) rfl (oddD (by decide +kernel)))
      (mkis_cons (mki_dat (mk_int 1) rfl (oddD (by decide +kernel)))
      (mkis_cons (mki_dat (mk_neg 1) rfl (oddD (by decide +kernel)))
      (mkis_cons (mki_dat (mk_pow (i := 10) (j := 39) ⟨by decide, by decide, by decide⟩) rfl (oddD (by decide +kernel)))
      (mkis_cons (mki_dat (mk_str "") rfl (oddD (by decide +kernel)))
      (mkis_cons (mki_dat (mk_str "fill") rfl (oddD (by decide +kernel)))
      (mkis_cons (mki_dat (mk_str "up") rfl (oddD (by decide +kernel)))
      (mkis_cons (mki_dat (mk_tup (mka_nil) (by decide)) rfl (oddD (by decide +kernel)))
      (mkis_cons (mki_lst (mka_nil) (by decide) (oddD (by decide +kernel)))
      (mkis_cons (mki_dat (mk_dic0) rfl (oddD (by decide +kernel)))
      (mkis_cons (mki_dat (mk_tup (mka_cons (mk_int 0) (mka_nil)) (by decide)) rfl (oddD (by decide +kernel)))
      (mkis_cons (mki_dat (mk_tup (mka_cons (mk_str "next") (mka_nil)) (by decide)) rfl (oddD (by decide +kernel)))
      (mkis_cons (mki_dat (mk_tup (mka_cons (mk_str "fill") (mka_cons (mk_tup (mka_nil) (by decide)) (mka_nil))) (by decide)) rfl (oddD (by decide +kernel)))
      (mkis_cons (mki_dat (mk_tup (mka_cons (mk_int 1) (mka_cons (mk_int 0) (mka_nil))) (by decide)) rfl (oddD (by decide +kernel)))
      (mkis_nil)))))))))))))))))
    have second_ : ∀ p, MkIs K H ([some (.ref b), some (.ref p)] : L2.St) _ 6 Odd := fun p => mkis_cons (mki_lst (mka_cons (mk_str "fill") (mka_cons (mk_tup (mka_nil) (by decide)) (mka_nil))) (by decide) (oddD (by decide +kernel)))
      (mkis_cons (mki_dat (mk_tup (mka_cons (mk_str "up") (mka_cons (mk_int 0) (mka_nil))) (by decide)) rfl (oddD (by decide +kernel)))
      (mkis_cons (mki_dat (mk_dic1 (k := Sum.inr "fill") fun _ => mk_tup (mka_cons (mk_int 0) (mka_nil)) (by decide)) rfl (oddD (by decide +kernel)))
      (mkis_cons (mki_dat (mk_dic1 (k := Sum.inl 0) fun _ => mk_int 1) rfl (oddD (by decide +kernel)))
      (mkis_cons (mki_dat (mk_str "a\n") rfl (oddD (by decide +kernel)))
      (mkis_cons (mki_dat (mk_tup (mka_cons (mk_tup (mka_cons (mk_str "next") (mka_cons (mk_str "fill") (mka_nil))) (by decide)) (mka_nil)) (by decide)) rfl (oddD (by decide +kernel)))
      (mkis_nil))))))
    refine set_lst first_ (by decide) fun xs G1 p s1 len1 each1 np => ?_
    refine ⟨_, rfl, _, rfl, ?_⟩
    refine lst_is (second_ p) (s1.trans (same_upd1 np)) (by decide) fun ys G2 p2 s2 len2 each2 np2 => ?_
    have at_p : G2 p = some (.lst xs) := s2 _ _ upd_same
    have pp : p ≠ p2 := ne_of_none at_p np2
    refine ⟨p, p2, xs, ys, rfl, rfl, same_upd1 np2 _ _ at_p, upd_same, line1000 (by omega), fun p3 np3 => ?_⟩
    have s3 : Same H (upd (upd G2 p2 (.lst ys)) p3 (.lst (xs ++ ys))) := ((s1.trans (same_upd1 np)).trans s2).trans ((same_upd1 np2).trans (same_upd1 np3))
    have bag3 := bag.same s3
    have p3b : p3 ≠ b := by
      obtain ⟨o, e⟩ := (bag.same (((s1.trans (same_upd1 np)).trans s2).trans (same_upd1 (o := .lst ys) np2))).some_
      exact fun z => by rw [z, e] at np3; cases np3
    refine ⟨b, p3, xs ++ ys, rfl, bag3, .inl (SqL.of upd_same), p3b, by rw [List.length_append]; omega, by rw [List.length_append]; omega, fun H4 v mem but4 bag4 => ?_⟩
    obtain ⟨ob, eb⟩ := bag.some_
    have up : ∀ {G : Hp}, Same G (upd (upd G2 p2 (.lst ys)) p3 (.lst (xs ++ ys))) → ∀ q o, H q = none → G q = some o → H4 q = some o := fun s q o n e =>
      but4.1 q o (fun z => by rw [z, eb] at n; cases n) (s _ _ e)
    rcases List.mem_append.mp mem with m | m
    · obtain ⟨d, it, od⟩ := each1 v m
      exact fin H4 v d ((But.of s3).trans but4) bag4 (Item.upF (up ((same_upd1 np).trans (s2.trans ((same_upd1 np2).trans (same_upd1 np3))))) it) od
    · obtain ⟨d, it, od⟩ := each2 v m
      exact fin H4 v d ((But.of s3).trans but4) bag4 (Item.upF (up ((same_upd1 np2).trans (same_upd1 np3))) it) od
/-! ### a hall, its names -/
abbrev sAny : Stmt := topS 34
theorem scAny : FnScope ["bag"] ["bag"] (defScope sAny) := ⟨rfl, rfl, rfl, by decide +kernel, rfl, by decide +kernel, by decide +kernel⟩
def spAny (K : PySem.W.Frag) : Sp := fun vs H Q _ => ∃ b : Addr, vs = [.ref b] ∧ BagAt H b ∧ ∀ H' r h most, But b H H' → r ≠ b → Dt K b H' (.ref r) (hallD h) → Hall.Ok most h → most ≤ 6 → h.ms.length ≤ 5 → Q (.ref r) H'
theorem ok_any {f fW fT fS fM fP fF : Addr} {fd fdW fdT fdS fdM fdP fdF : FuncData} (F : At K mg "_law_any_hall" sAny ["bag"] f fd) (Wb : At K mg "_law_web" sWeb ["bag", "machines", "most"] fW fdW) (T : At K mg "_law_take" sTake ["bag", "many"] fT fdT) (S : At K mg "_law_some" sSome ["bag", "things"] fS fdS)
    (Mx : At K mg "_law_mixed" sMixed ["bag", "things"] fM fdM) (Pu : At K mg "_law_purses" sPur ["bag", "most"] fP fdP) (Fi : At K mg "_law_first" sFirst ["bag", "room"] fF fdF) (mi : mg "int" = none) (ml : mg "len" = none) (mt : mg "tuple" = none) (mr : mg "range" = none) (ms : mg "sorted" = none) :
    FnOk P w K mg base CX0 5 f fd ["bag"] (spAny K) := by
  have GS : FnOk P w K mg base CX0 2 fS fdS ["bag", "things"] (spSome K) := ok_some S T mi ml
  have GW : FnOk P w K mg base CX0 4 fW fdW ["bag", "machines", "most"] (spWeb K) := ok_web Wb T S Mx Pu Fi mi ml mt mr ms
  refine F.fn.ok scAny (fun vs H Q E h => ?_) (fun cdv A outer s H vs Q E hr h => ?_)
  · obtain ⟨b, rfl, _⟩ := h
    rfl
  · obtain ⟨b, rfl, bag, fin⟩ := h
    have hr2 : Room 2 _ := hr.mono (by decide)
    refine ⟨_, pss_one (ps_ret (pe_call GW hr (by rfl) Wb.g Wb.fn.kp Wb.b .nil pass0 (pa_cons (pv 0)
      (pa_cons (pe_call GS hr2 (by rfl) S.g S.fn.kp S.b .nil pass0 (pa_cons (pv 0) (pa_cons (pe_lst (pa_cons pe_int (pa_cons pe_int (pa_cons pe_int (pa_cons pe_int (pa_cons pe_int pa_nil)))))) pa_nil)))
      (pa_cons (pe_call GS hr2 (by rfl) S.g S.fn.kp S.b .nil pass0 (pa_cons (pv 0) (pa_cons (pe_lst (pa_cons pe_int (pa_cons pe_int (pa_cons pe_int pa_nil)))) pa_nil))) pa_nil))))), ?_⟩
    refine ⟨_, rfl, _, rfl, len_line (by show 5 ≤ 100000; decide), fun p np => ?_⟩
    have pb := (But.free (But.refl b H) bag np).1
    refine ⟨b, p, _, rfl, bag.new np, .inl (SqL.of upd_same), pb, by show 0 < 5; decide, by show 5 < 1073741824; decide, fun G1 x mem but1 bag1 => ?_⟩
    obtain ⟨many, rfl, m4⟩ : ∃ many : Nat, x = V.int many ∧ many ≤ 4 := by
      simp only [List.mem_cons, List.not_mem_nil, or_false] at mem
      rcases mem with e | e | e | e | e
      · exact ⟨2, e, by decide⟩
      · exact ⟨1, e, by decide⟩
      · exact ⟨3, e, by decide⟩
      · exact ⟨0, e, by decide⟩
      · exact ⟨4, e, by decide⟩
    refine ⟨_, rfl, len_line (by show 3 ≤ 100000; decide), fun p2 np2 => ?_⟩
    have pb2 := (But.free (But.refl b G1) bag1 np2).1
    refine ⟨b, p2, _, rfl, bag1.new np2, .inl (SqL.of upd_same), pb2, by show 0 < 3; decide, by show 3 < 1073741824; decide, fun G2 y mem2 but2 bag2 => ?_⟩
    obtain ⟨most, rfl, o1, o6⟩ : ∃ most : Int, y = V.int most ∧ 1 ≤ most ∧ most ≤ 6 := by
      simp only [List.mem_cons, List.not_mem_nil, or_false] at mem2
      rcases mem2 with e | e | e
      · exact ⟨3, e, by decide, by decide⟩
      · exact ⟨6, e, by decide, by decide⟩
      · exact ⟨1, e, by decide, by decide⟩
    refine ⟨b, many, most, rfl, bag2, by omega, o1, by omega, fun G3 r h but3 _ rb dt ok ml' => ?_⟩
    exact fin G3 r h most ((((((But.refl b H).new np).trans but1).new np2).trans but2).trans but3) rb dt ok o6 (by omega)
/-- odd values, as data -/
theorem odd_dt {b : Addr} {H H' : Hp} {v : V} {d : PyData} (bag : BagAt H b) (h : Item K H H' v d) : Dt K b H' v d := by
  have dat : Dat K (newP H H') v d := by
    rcases h with ⟨a, xs, ds, F, e1, e2, e3, e4, e5, e6, e7⟩ | ⟨e1, e2⟩
    · subst e1 e2
      exact .lst (SqL.of (newP_of e3 e4)) (DatAll.up (sub_newP e5) e7)
    · exact e2
  refine Dat.up (fun p o e => ?_) dat
  obtain ⟨n, e1⟩ := newP_sub _ _ p o e
  refine dt_at (fun z => ?_) e1
  obtain ⟨_, _, _, _, _, y, _⟩ := bag
  rw [z, y] at n
  cases n
end
end K29

namespace K29
open PySem PySem.Spec PyProof.Rows L2 Vd Evl
/-! ### what kind of data -/
def kind : PyData → String
  | .none => "NoneType"
  | .bool _ => "bool"
  | .int _ => "int"
  | .str _ => "str"
  | .list _ => "list"
  | .tuple _ => "tuple"
  | .dict _ => "dict"
theorem Dat.tyb {K : PySem.W.Frag} {H : Hp} {v : V} {d : PyData} (h : Dat K H v d) : TyB K H v (kind d) := by
  cases h with
  | non => exact .non
  | bl b => exact .bl b
  | int i => exact .int i
  | str x => exact .str x
  | lst a b => exact .lst a
  | tup a b => exact .tup a
  | dic a b => exact .dK a
def isInt : PyData → Bool
  | .int _ => true
  | _ => false
def isAbove (n : Int) : PyData → Bool
  | .int i => decide (n ≤ i)
  | _ => false
def isTup (n : Int) : PyData → Bool
  | .tuple ds => decide ((ds.length : Int) = n)
  | _ => false
section
variable {P : Program} {w : World} {K : PySem.W.Frag} {mg : Str → Option Value} {base : Heap}
abbrev sTupOf : Stmt := topS 4
abbrev sInt_ : Stmt := topS 5
abbrev sCount : Stmt := topS 6
abbrev sPos : Stmt := topS 7
theorem scTupOf : FnScope ["thing", "many"] ["thing", "many"] (defScope sTupOf) := ⟨rfl, rfl, rfl, by decide +kernel, rfl, by decide +kernel, by decide +kernel⟩
theorem scInt_ : FnScope ["thing"] ["thing"] (defScope sInt_) := ⟨rfl, rfl, rfl, by decide +kernel, rfl, by decide +kernel, by decide +kernel⟩
theorem scCount : FnScope ["thing"] ["thing"] (defScope sCount) := ⟨rfl, rfl, rfl, by decide +kernel, rfl, by decide +kernel, by decide +kernel⟩
theorem scPos : FnScope ["thing"] ["thing"] (defScope sPos) := ⟨rfl, rfl, rfl, by decide +kernel, rfl, by decide +kernel, by decide +kernel⟩
/-- a test of one value: all that stood stays -/
def spIs (K : PySem.W.Frag) (f : PyData → Bool) : Sp := fun vs H Q _ => ∃ v d, vs = [v] ∧ Dat K H v d ∧ ∀ H', Same H H' → Q (.bl (f d)) H'
def spTupOf (K : PySem.W.Frag) : Sp := fun vs H Q _ => ∃ v d n, vs = [v, .int n] ∧ Dat K H v d ∧ Q (.bl (isTup n d)) H
theorem ok_tupof {f : Addr} {fd : FuncData} (F : At K mg "is_tuple_of" sTupOf ["thing", "many"] f fd) (my : mg "type" = none) (mt : mg "tuple" = none) (ml : mg "len" = none) : FnOk P w K mg base CX0 1 f fd ["thing", "many"] (spTupOf K) := by
  have bt : bootBuiltins "tuple" = some (.type "tuple") := by decide +kernel
  have by_ : bootBuiltins "type" = some (.type "type") := by decide +kernel
  refine F.fn.ok scTupOf (fun vs H Q E h => ?_) (fun cdv A outer s H vs Q E hr h => ?_)
  · obtain ⟨v, d, n, rfl, _⟩ := h
    rfl
  · obtain ⟨v, d, n, rfl, dat, fin⟩ := h
    refine ⟨_, pss_one (ps_ret (pe_and (pe_cmpR op_isTyB (pe_callTy call_type1 (by rfl) my by_ (pa_cons (pv 0) pa_nil)) (pe_bltn (by rfl) mt bt (v := .ty "tuple") rfl) (nomark _))
      (pe_one (pe_cmpR op_eq (pe_callB call_len_seq (by rfl) ml PySem.boot_len (pa_cons (pv 0) pa_nil)) (pv 1) (nomark _))))), ?_⟩
    refine ⟨_, rfl, v, kind d, rfl, Dat.tyb dat, kind d, "tuple", rfl, rfl, _, rfl, ?_⟩
    cases dat with
    | @tup a xs ds sq all =>
      refine iteT ⟨_, rfl, a, xs, rfl, .inr sq, _, rfl, rfl, ?_⟩
      have len : xs.length = ds.length := dats_len all
      have e : decide (V.int (xs.length : Nat) = V.int n) = isTup n (.tuple ds) := by
        show _ = decide ((ds.length : Int) = n)
        rw [len]
        by_cases h : (ds.length : Int) = n
        · rw [decide_eq_true h, h]
          exact decide_eq_true rfl
        · rw [decide_eq_false h]
          exact decide_eq_false fun z => h (by injection z)
      rw [e]
      exact fin
    | non => exact iteF fin
    | bl b => exact iteF fin
    | int i => exact iteF fin
    | str x => exact iteF fin
    | lst a b => exact iteF fin
    | dic a b => exact iteF fin
theorem ok_isint {f : Addr} {fd : FuncData} (F : At K mg "is_integer" sInt_ ["thing"] f fd) (my : mg "type" = none) (mi : mg "int" = none) : FnOk P w K mg base CX0 1 f fd ["thing"] (spIs K isInt) := by
  have bt : bootBuiltins "int" = some (.type "int") := by decide +kernel
  have by_ : bootBuiltins "type" = some (.type "type") := by decide +kernel
  refine F.fn.ok scInt_ (fun vs H Q E h => ?_) (fun cdv A outer s H vs Q E hr h => ?_)
  · obtain ⟨v, d, rfl, _⟩ := h
    rfl
  · obtain ⟨v, d, rfl, dat, fin⟩ := h
    refine ⟨_, pss_one (ps_ret (pe_cmpR op_isTyB (pe_callTy call_type1 (by rfl) my by_ (pa_cons (pv 0) pa_nil)) (pe_bltn (by rfl) mi bt (v := .ty "int") rfl) (nomark _))), ?_⟩
    refine ⟨_, rfl, v, kind d, rfl, Dat.tyb dat, kind d, "int", rfl, rfl, ?_⟩
    have e : decide (kind d = "int") = isInt d := by cases d <;> rfl
    rw [e]
    exact fin H (Same.refl H)
theorem ok_count {f fI : Addr} {fd fdI : FuncData} (F : At K mg "is_count" sCount ["thing"] f fd) (Ii : At K mg "is_integer" sInt_ ["thing"] fI fdI) (my : mg "type" = none) (mi : mg "int" = none) : FnOk P w K mg base CX0 2 f fd ["thing"] (spIs K (isAbove 0)) := by
  have GI : FnOk P w K mg base CX0 1 fI fdI ["thing"] (spIs K isInt) := ok_isint Ii my mi
  refine F.fn.ok scCount (fun vs H Q E h => ?_) (fun cdv A outer s H vs Q E hr h => ?_)
  · obtain ⟨v, d, rfl, _⟩ := h
    rfl
  · obtain ⟨v, d, rfl, dat, fin⟩ := h
    refine ⟨_, pss_one (ps_ret (pe_and (pe_call GI hr (by rfl) Ii.g Ii.fn.kp Ii.b .nil pass0 (pa_cons (pv 0) pa_nil)) (pe_one (pe_cmpR op_ge (pv 0) pe_int (nomark _))))), ?_⟩
    refine ⟨_, rfl, v, d, rfl, dat, fun H1 s1 => ⟨_, rfl, ?_⟩⟩
    cases dat with
    | int i => exact iteT ⟨_, rfl, _, _, rfl, rfl, fin H1 s1⟩
    | tup a b => exact iteF (fin H1 s1)
    | non => exact iteF (fin H1 s1)
    | bl b => exact iteF (fin H1 s1)
    | str x => exact iteF (fin H1 s1)
    | lst a b => exact iteF (fin H1 s1)
    | dic a b => exact iteF (fin H1 s1)
theorem ok_pos {f fI : Addr} {fd fdI : FuncData} (F : At K mg "is_positive" sPos ["thing"] f fd) (Ii : At K mg "is_integer" sInt_ ["thing"] fI fdI) (my : mg "type" = none) (mi : mg "int" = none) : FnOk P w K mg base CX0 2 f fd ["thing"] (spIs K (isAbove 1)) := by
  have GI : FnOk P w K mg base CX0 1 fI fdI ["thing"] (spIs K isInt) := ok_isint Ii my mi
  refine F.fn.ok scPos (fun vs H Q E h => ?_) (fun cdv A outer s H vs Q E hr h => ?_)
  · obtain ⟨v, d, rfl, _⟩ := h
    rfl
  · obtain ⟨v, d, rfl, dat, fin⟩ := h
    refine ⟨_, pss_one (ps_ret (pe_and (pe_call GI hr (by rfl) Ii.g Ii.fn.kp Ii.b .nil pass0 (pa_cons (pv 0) pa_nil)) (pe_one (pe_cmpR op_ge (pv 0) pe_int (nomark _))))), ?_⟩
    refine ⟨_, rfl, v, d, rfl, dat, fun H1 s1 => ⟨_, rfl, ?_⟩⟩
    cases dat with
    | int i => exact iteT ⟨_, rfl, _, _, rfl, rfl, fin H1 s1⟩
    | tup a b => exact iteF (fin H1 s1)
    | non => exact iteF (fin H1 s1)
    | bl b => exact iteF (fin H1 s1)
    | str x => exact iteF (fin H1 s1)
    | lst a b => exact iteF (fin H1 s1)
    | dic a b => exact iteF (fin H1 s1)
/-! ### the law's own -/
abbrev sLInt : Stmt := topS 21
abbrev sLAbove : Stmt := topS 29
abbrev sLPurse : Stmt := topS 30
theorem scLInt : FnScope ["thing"] ["thing"] (defScope sLInt) := ⟨rfl, rfl, rfl, by decide +kernel, rfl, by decide +kernel, by decide +kernel⟩
theorem scLAbove : FnScope ["thing", "least"] ["thing", "least"] (defScope sLAbove) := ⟨rfl, rfl, rfl, by decide +kernel, rfl, by decide +kernel, by decide +kernel⟩
theorem scLPurse : FnScope ["thing"] ["thing"] (defScope sLPurse) := ⟨rfl, rfl, rfl, by decide +kernel, rfl, by decide +kernel, by decide +kernel⟩
/-- what isinstance says of the kinds of data -/
structure KT (K : PySem.W.Frag) (T : String) (f : PyData → Bool) : Prop where
  non : PySem.W.kitOne K (.type "NoneType") (.type T) = some (f .none)
  bl : ∀ b, PySem.W.kitOne K (.type "bool") (.type T) = some (f (.bool b))
  int : ∀ i, PySem.W.kitOne K (.type "int") (.type T) = some (f (.int i))
  str : ∀ x, PySem.W.kitOne K (.type "str") (.type T) = some (f (.str x))
  lst : ∀ ds, PySem.W.kitOne K (.type "list") (.type T) = some (f (.list ds))
  tup : ∀ ds, PySem.W.kitOne K (.type "tuple") (.type T) = some (f (.tuple ds))
  dic : ∀ ds, PySem.W.kitOne K (.type "dict") (.type T) = some (f (.dict ds))
theorem tyx_l {H : Hp} {a : Addr} {xs : List V} (h : SqL K H a xs) : TyX K H (.ref a) (.type "list") := by
  rcases h with (h | ⟨o, h⟩) | h
  · exact .base (.lst h)
  · exact .base (.frz h)
  · obtain ⟨o, _, _, h1, h2, _⟩ := h
    exact .kList h1 h2
theorem tyx_t {H : Hp} {a : Addr} {xs : List V} (h : SqT K H a xs) : TyX K H (.ref a) (.type "tuple") := by
  rcases h with (h | ⟨o, h⟩) | h
  · exact .base (.tup h)
  · exact .fTuple h
  · obtain ⟨o, _, _, h1, h2, _⟩ := h
    exact .kTuple h1 h2
theorem KT.of {T : String} {f : PyData → Bool} (k : KT K T f) {H : Hp} {v : V} {d : PyData} (h : Dat K H v d) : ∃ t, TyX K H v t ∧ PySem.W.kitOne K t (.type T) = some (f d) := by
  cases h with
  | non => exact ⟨_, .base .non, k.non⟩
  | bl b => exact ⟨_, .base (.bl b), k.bl b⟩
  | int i => exact ⟨_, .base (.int i), k.int i⟩
  | str x => exact ⟨_, .base (.str x), k.str x⟩
  | lst a b => exact ⟨_, tyx_l a, k.lst _⟩
  | tup a b => exact ⟨_, tyx_t a, k.tup _⟩
  | dic a b => exact ⟨_, .base (.dK a), k.dic _⟩
def wideInt : PyData → Bool
  | .int _ => true
  | .bool _ => true
  | _ => false
def isBool : PyData → Bool
  | .bool _ => true
  | _ => false
def isStr : PyData → Bool
  | .str _ => true
  | _ => false
def anyTup : PyData → Bool
  | .tuple _ => true
  | _ => false
def isDict : PyData → Bool
  | .dict _ => true
  | _ => false
theorem ok_lint {f : Addr} {fd : FuncData} (F : At K mg "_law_is_int" sLInt ["thing"] f fd) (ms : mg "isinstance" = none) (mi : mg "int" = none) (mb : mg "bool" = none) (ki : KT K "int" wideInt) (kb : KT K "bool" isBool) : FnOk P w K mg base CX0 1 f fd ["thing"] (spIs K isInt) := by
  have bi : bootBuiltins "isinstance" = some (.builtin "isinstance") := PyProof.Rows.boot_isinstance
  have b1 : bootBuiltins "int" = some (.type "int") := by decide +kernel
  have b2 : bootBuiltins "bool" = some (.type "bool") := by decide +kernel
  refine F.fn.ok scLInt (fun vs H Q E h => ?_) (fun cdv A outer s H vs Q E hr h => ?_)
  · obtain ⟨v, d, rfl, _⟩ := h
    rfl
  · obtain ⟨v, d, rfl, dat, fin⟩ := h
    refine ⟨_, pss_one (ps_ret (pe_and (pe_callB call_isi (by rfl) ms bi (pa_cons (pv 0) (pa_cons (pe_bltn (by rfl) mi b1 (v := .ty "int") rfl) pa_nil)))
      (pe_one (pe_not (pe_callB call_isi (by rfl) ms bi (pa_cons (pv 0) (pa_cons (pe_bltn (by rfl) mb b2 (v := .ty "bool") rfl) pa_nil))))))), ?_⟩
    obtain ⟨t, tx, k1⟩ := ki.of dat
    obtain ⟨t2, tx2, k2⟩ := kb.of dat
    refine ⟨_, rfl, v, .ty "int", t, .type "int", _, rfl, .ty "int", tx, k1, _, rfl, ?_⟩
    have two : ∃ c, V.bl (isBool d) = V.bl c ∧ Q (.bl (!c)) H → True := ⟨true, fun _ => trivial⟩
    cases d with
    | int i => exact iteT ⟨_, rfl, v, .ty "bool", t2, .type "bool", _, rfl, .ty "bool", tx2, k2, _, rfl, fin H (Same.refl H)⟩
    | bool b => exact iteT ⟨_, rfl, v, .ty "bool", t2, .type "bool", _, rfl, .ty "bool", tx2, k2, _, rfl, fin H (Same.refl H)⟩
    | none => exact iteF (fin H (Same.refl H))
    | str x => exact iteF (fin H (Same.refl H))
    | list ds => exact iteF (fin H (Same.refl H))
    | tuple ds => exact iteF (fin H (Same.refl H))
    | dict ds => exact iteF (fin H (Same.refl H))
def spAbove (K : PySem.W.Frag) : Sp := fun vs H Q _ => ∃ v d n, vs = [v, .int n] ∧ Dat K H v d ∧ ∀ H', Same H H' → Q (.bl (isAbove n d)) H'
theorem ok_labove {f fI : Addr} {fd fdI : FuncData} (F : At K mg "_law_is_above" sLAbove ["thing", "least"] f fd) (Ii : At K mg "_law_is_int" sLInt ["thing"] fI fdI) (ms : mg "isinstance" = none) (mi : mg "int" = none) (mb : mg "bool" = none) (ki : KT K "int" wideInt) (kb : KT K "bool" isBool) :
    FnOk P w K mg base CX0 2 f fd ["thing", "least"] (spAbove K) := by
  have GI : FnOk P w K mg base CX0 1 fI fdI ["thing"] (spIs K isInt) := ok_lint Ii ms mi mb ki kb
  refine F.fn.ok scLAbove (fun vs H Q E h => ?_) (fun cdv A outer s H vs Q E hr h => ?_)
  · obtain ⟨v, d, n, rfl, _⟩ := h
    rfl
  · obtain ⟨v, d, n, rfl, dat, fin⟩ := h
    refine ⟨_, pss_one (ps_ret (pe_and (pe_call GI hr (by rfl) Ii.g Ii.fn.kp Ii.b .nil pass0 (pa_cons (pv 0) pa_nil)) (pe_one (pe_cmpR op_ge (pv 0) (pv 1) (nomark _))))), ?_⟩
    refine ⟨_, rfl, v, d, rfl, dat, fun H1 s1 => ⟨_, rfl, ?_⟩⟩
    cases dat with
    | int i => exact iteT ⟨_, rfl, _, rfl, _, _, rfl, rfl, fin H1 s1⟩
    | tup a b => exact iteF (fin H1 s1)
    | non => exact iteF (fin H1 s1)
    | bl b => exact iteF (fin H1 s1)
    | str x => exact iteF (fin H1 s1)
    | lst a b => exact iteF (fin H1 s1)
    | dic a b => exact iteF (fin H1 s1)
end
end K29

namespace K29
open PySem PySem.Spec PyProof.Rows L2 Vd Evl
def isPurse : PyData → Bool
  | .tuple [a, b] => isAbove 1 a && isAbove 0 b
  | _ => false
/-- a tuple of so many members, or not -/
theorem tup_cases {K : PySem.W.Frag} {H : Hp} {v : V} {d : PyData} (n : Nat) (h : Dat K H v d) : (isTup n d = false) ∨ ∃ (a : Addr) (xs : List V) (ds : List PyData), v = .ref a ∧ d = .tuple ds ∧ SqT K H a xs ∧ DatAll K H xs ds ∧ ds.length = n ∧ isTup n d = true := by
  cases h with
  | @tup a xs ds sq all =>
    by_cases e : ds.length = n
    · exact .inr ⟨a, xs, ds, rfl, rfl, sq, all, e, decide_eq_true (by rw [e])⟩
    · exact .inl (decide_eq_false fun z => e (by omega))
  | non => exact .inl rfl
  | bl b => exact .inl rfl
  | int i => exact .inl rfl
  | str x => exact .inl rfl
  | lst a b => exact .inl rfl
  | dic a b => exact .inl rfl
theorem two_of {K : PySem.W.Frag} {H : Hp} {xs : List V} {ds : List PyData} (h : DatAll K H xs ds) (e : ds.length = 2) : ∃ x y d1 d2, xs = [x, y] ∧ ds = [d1, d2] ∧ Dat K H x d1 ∧ Dat K H y d2 := by
  match ds, e with
  | [d1, d2], _ =>
    cases h with
    | cons a r =>
      cases r with
      | cons b r =>
        cases r
        exact ⟨_, _, _, _, rfl, rfl, a, b⟩
theorem purse_no {d : PyData} (h : isTup 2 d = false) : isPurse d = false := by
  cases d with
  | tuple ds =>
    match ds, h with
    | [], _ => rfl
    | [_], _ => rfl
    | [a, b], h => cases h
    | _ :: _ :: _ :: _, _ => rfl
  | _ => rfl
section
variable {P : Program} {w : World} {K : PySem.W.Frag} {mg : Str → Option Value} {base : Heap}
abbrev sPurse : Stmt := topS 10
theorem scPurse : FnScope ["thing"] ["thing"] (defScope sPurse) := ⟨rfl, rfl, rfl, by decide +kernel, rfl, by decide +kernel, by decide +kernel⟩
theorem ok_purse {f fT fP fC fI : Addr} {fd fdT fdP fdC fdI : FuncData} (F : At K mg "is_purse" sPurse ["thing"] f fd) (To : At K mg "is_tuple_of" sTupOf ["thing", "many"] fT fdT) (Po : At K mg "is_positive" sPos ["thing"] fP fdP) (Co : At K mg "is_count" sCount ["thing"] fC fdC)
    (Ii : At K mg "is_integer" sInt_ ["thing"] fI fdI) (my : mg "type" = none) (mi : mg "int" = none) (mt : mg "tuple" = none) (ml : mg "len" = none) : FnOk P w K mg base CX0 3 f fd ["thing"] (spIs K isPurse) := by
  have GT : FnOk P w K mg base CX0 1 fT fdT ["thing", "many"] (spTupOf K) := ok_tupof To my mt ml
  have GP : FnOk P w K mg base CX0 2 fP fdP ["thing"] (spIs K (isAbove 1)) := ok_pos Po Ii my mi
  have GC : FnOk P w K mg base CX0 2 fC fdC ["thing"] (spIs K (isAbove 0)) := ok_count Co Ii my mi
  refine F.fn.ok scPurse (fun vs H Q E h => ?_) (fun cdv A outer s H vs Q E hr h => ?_)
  · obtain ⟨v, d, rfl, _⟩ := h
    rfl
  · obtain ⟨v, d, rfl, dat, fin⟩ := h
    have hr1 : Room 1 _ := hr.mono (by decide)
    refine ⟨_, pss_one (ps_ret (pe_and (pe_call GT hr1 (by rfl) To.g To.fn.kp To.b .nil pass0 (pa_cons (pv 0) (pa_cons pe_int pa_nil)))
      (pe_and (pe_call GP hr (by rfl) Po.g Po.fn.kp Po.b .nil pass0 (pa_cons (pe_ix ix_tup (pv 0) pe_int (fun _ _ => rfl)) pa_nil))
        (pe_one (pe_call GC hr (by rfl) Co.g Co.fn.kp Co.b .nil pass0 (pa_cons (pe_ix ix_tup (pv 0) pe_int (fun _ _ => rfl)) pa_nil)))))), ?_⟩
    refine ⟨_, rfl, v, d, 2, rfl, dat, _, rfl, ?_⟩
    rcases tup_cases 2 dat with no | ⟨a, xs, ds, rfl, rfl, sq, all, len, yes⟩
    · rw [show isTup 2 d = false from no]
      have := fin H (Same.refl H)
      rw [purse_no no] at this
      exact iteF this
    · rw [show isTup 2 (.tuple ds) = true from yes]
      obtain ⟨x, y, d1, d2, rfl, rfl, q1, q2⟩ := two_of all len
      · refine iteT ⟨_, rfl, a, _, 0, x, rfl, rfl, sq, rfl, x, d1, rfl, q1, fun H1 s1 => ⟨_, rfl, ?_⟩⟩
        have f1 : isPurse (.tuple [d1, d2]) = (isAbove 1 d1 && isAbove 0 d2) := rfl
        cases e : isAbove 1 d1 with
        | true =>
          refine iteT ⟨_, rfl, a, _, 1, y, rfl, rfl, sqt_up s1 sq, rfl, y, d2, rfl, Dat.up s1 q2, fun H2 s2 => ?_⟩
          have := fin H2 (s1.trans s2)
          rw [f1, e, Bool.true_and] at this
          exact this
        | false =>
          have := fin H1 s1
          rw [f1, e, Bool.false_and] at this
          exact iteF this
theorem ok_lpurse {f fA fI : Addr} {fd fdA fdI : FuncData} (F : At K mg "_law_is_purse" sLPurse ["thing"] f fd) (Ab : At K mg "_law_is_above" sLAbove ["thing", "least"] fA fdA) (Ii : At K mg "_law_is_int" sLInt ["thing"] fI fdI) (ms : mg "isinstance" = none) (mi : mg "int" = none) (mb : mg "bool" = none)
    (mt : mg "tuple" = none) (ml : mg "len" = none) (ki : KT K "int" wideInt) (kb : KT K "bool" isBool) (kt : KT K "tuple" anyTup) : FnOk P w K mg base CX0 3 f fd ["thing"] (spIs K isPurse) := by
  have GA : FnOk P w K mg base CX0 2 fA fdA ["thing", "least"] (spAbove K) := ok_labove Ab Ii ms mi mb ki kb
  have bi : bootBuiltins "isinstance" = some (.builtin "isinstance") := PyProof.Rows.boot_isinstance
  have bt : bootBuiltins "tuple" = some (.type "tuple") := by decide +kernel
  refine F.fn.ok scLPurse (fun vs H Q E h => ?_) (fun cdv A outer s H vs Q E hr h => ?_)
  · obtain ⟨v, d, rfl, _⟩ := h
    rfl
  · obtain ⟨v, d, rfl, dat, fin⟩ := h
    refine ⟨_, pss_cons (ps_if (PW.pt (pw_or (pt_not (pt_val (pe_callB call_isi (by rfl) ms bi (pa_cons (pv 0) (pa_cons (pe_bltn (by rfl) mt bt (v := .ty "tuple") rfl) pa_nil)))))
        (pw_or1 (pt_cmpR op_ne (pe_callB call_len_seq (by rfl) ml PySem.boot_len (pa_cons (pv 0) pa_nil)) pe_int (nomark _))))) (pss_one (ps_ret pe_bl)) pss_nil)
      (pss_one (ps_ret (pe_and (pe_call GA hr (by rfl) Ab.g Ab.fn.kp Ab.b .nil pass0 (pa_cons (pe_ix ix_tup (pv 0) pe_int (fun _ _ => rfl)) (pa_cons pe_int pa_nil)))
        (pe_one (pe_call GA hr (by rfl) Ab.g Ab.fn.kp Ab.b .nil pass0 (pa_cons (pe_ix ix_tup (pv 0) pe_int (fun _ _ => rfl)) (pa_cons pe_int pa_nil))))))), ?_⟩
    obtain ⟨t, tx, k1⟩ := kt.of dat
    refine ⟨_, rfl, v, .ty "tuple", t, .type "tuple", _, rfl, .ty "tuple", tx, k1, _, rfl, ?_⟩
    have out : isTup 2 d = false → Q (.bl false) H := fun no => by
      have := fin H (Same.refl H)
      rwa [purse_no no] at this
    cases dat with
    | @tup a xs ds sq all =>
      refine iteF ⟨_, rfl, a, xs, rfl, .inr sq, rfl, _, rfl, ?_⟩
      have len := dats_len all
      by_cases e : ds.length = 2
      · have c : (!decide (V.int (xs.length : Nat) = V.int 2)) = false := by
          rw [len, e]
          decide
        rw [c]
        refine iteF ?_
        obtain ⟨x, y, d1, d2, rfl, rfl, q1, q2⟩ := two_of all e
        · refine ⟨_, rfl, a, _, 0, x, rfl, rfl, sq, rfl, x, d1, 1, rfl, q1, fun H1 s1 => ⟨_, rfl, ?_⟩⟩
          have f1 : isPurse (.tuple [d1, d2]) = (isAbove 1 d1 && isAbove 0 d2) := rfl
          cases e : isAbove 1 d1 with
          | true =>
            refine iteT ⟨_, rfl, a, _, 1, y, rfl, rfl, sqt_up s1 sq, rfl, y, d2, 0, rfl, Dat.up s1 q2, fun H2 s2 => ?_⟩
            have := fin H2 (s1.trans s2)
            rw [f1, e, Bool.true_and] at this
            exact this
          | false =>
            have := fin H1 s1
            rw [f1, e, Bool.false_and] at this
            exact iteF this
      · have c : (!decide (V.int (xs.length : Nat) = V.int 2)) = true := by
          rw [len]
          have : ¬ V.int (ds.length : Nat) = V.int 2 := fun z => e (by injection z; omega)
          rw [decide_eq_false this]
          rfl
        rw [c]
        exact iteT (out (decide_eq_false fun z => e (by omega)))
    | non => exact iteT (out rfl)
    | bl b => exact iteT (out rfl)
    | int i => exact iteT (out rfl)
    | str x => exact iteT (out rfl)
    | lst a b => exact iteT (out rfl)
    | dic a b => exact iteT (out rfl)
end
end K29

namespace Vd
open PySem PySem.Spec PyProof.Rows L2
section
open AutoSeq1 MeetsSeq MeetsSeq2 MeetsSeq3 SeqRoads2
variable {prog : Program} {w : World}
theorem eqDiff (l b : Addr) (xs ys : Array Value) (n m : Nat) (d1 d2 : Option Addr) (s1 s2 : Array (Option Value)) (ne : (xs.size != ys.size) = true) :
    MeetsIn prog w (Builtin.«list.__eq__» ⟨[.ref l, .ref b], []⟩)
      (fun A R s => s.heap.get? l = some { cls := .type "list", dict := d1, data := .seq xs n, slots := s1 } ∧ s.heap.get? b = some { cls := .type "list", dict := d2, data := .seq ys m, slots := s2 } ∧ R (.ok (.ret (.bool false))) s) := by
  refine MeetsIn.of_wp fun A R s h => ?_
  obtain ⟨hp, g, d, tk, os⟩ := s
  obtain ⟨hl, hb, h⟩ := h
  have both := AutoSeq1.sub_list_list
  wp_walk using wpAny_loadPart' hl, wpAny_loadPart' hb
  exact ⟨_, rfl, h⟩
theorem rcDiff {A : Around} {s : Shared} {l b : Addr} {xs ys : Array Value} (hl : s.heap.IsList l xs) (hb : s.heap.IsList b ys) (ne : (xs.size != ys.size) = true) (room : A.units < cLine) (E Q : Value → Shared → Prop) (h : Q (.bool false) s) :
    wpAny (model prog w) A (richCompare .Eq (.ref l) (.ref b)) Q E s := by
  obtain ⟨⟨_, d1, _, s1⟩, o1, rfl, n, rfl⟩ := id hl
  obtain ⟨⟨_, d2, _, s2⟩, o2, rfl, m, rfl⟩ := id hb
  have t1 : s.TypeIs (.ref l) "list" := ⟨_, o1, rfl⟩
  refine wpAny_richCompare_same_room (op := .Eq) t1 ⟨_, o2, rfl⟩ F.slot_list_eq ?_ room
  exact call_meetsIn F.slot_list_eq t1 F.entry_list_eq (F.args_list_eq_2 _ _) (eqDiff l b xs ys n m d1 d2 s1 s2 ne) ⟨o1, o2, (show Value.bool false ≠ Value.notImplemented ∧ Q (.bool false) s from ⟨fun no => (nomatch no), h⟩)⟩
end
section
variable {X : Cx}
/-- == and != of any two shaped data -/
theorem op_eqG (room : X.A.units + 64 < cLine) : OpR X (compareOp .Eq) (fun x y H Q => ∃ d e, Dat X.K H x d ∧ Dat X.K H y e ∧ SeqAt.shaped d = true ∧ SeqAt.shaped e = true ∧ Q (.bl (PyData.eqv d e)) H) := by
  rintro pins s σ H x y u v Q I rx ry ⟨d, e, h1, h2, s1, s2, q⟩
  obtain ⟨as, r1⟩ := (Dat.rds I d x u h1 rx).reads
  obtain ⟨bs, r2⟩ := (Dat.rds I e y v h2 ry).reads
  exact SeqAt.compareEq_shaped r1 r2 s1 s2 room ⟨.bl _, H, I, rfl, q⟩
theorem op_neG (room : X.A.units + 64 < cLine) : OpR X (compareOp .NotEq) (fun x y H Q => ∃ d e, Dat X.K H x d ∧ Dat X.K H y e ∧ SeqAt.shaped d = true ∧ SeqAt.shaped e = true ∧ Q (.bl (!PyData.eqv d e)) H) := by
  rintro pins s σ H x y u v Q I rx ry ⟨d, e, h1, h2, s1, s2, q⟩
  obtain ⟨as, r1⟩ := (Dat.rds I d x u h1 rx).reads
  obtain ⟨bs, r2⟩ := (Dat.rds I e y v h2 ry).reads
  exact SeqAt.compareNe_shaped r1 r2 s1 s2 room ⟨.bl _, H, I, rfl, q⟩
/-- xs == [] -/
theorem op_eqNil (room : X.A.units + 64 < cLine) : OpR X (compareOp .Eq) (fun x y H Q => ∃ a b xs, x = .ref a ∧ y = .ref b ∧ SqL X.K H a xs ∧ SqL X.K H b [] ∧ Q (.bl xs.isEmpty) H) := by
  rintro pins s σ H x y u v Q I rx ry ⟨a, b, xs, rfl, rfl, h1, h2, q⟩
  cases xs with
  | nil => exact op_eqG room pins s σ H _ _ u v Q I rx ry ⟨.list [], .list [], .lst h1 .nil, .lst h2 .nil, by decide +kernel, by decide +kernel, by
      have e : PyData.eqv (.list []) (.list []) = true := by decide +kernel
      rw [e]
      exact q⟩
  | cons z zs =>
    cases rx
    cases ry
    obtain ⟨its, r1, p1, f1⟩ := I.list h1
    obtain ⟨its2, r2, p2, f2⟩ := I.list h2
    cases r2
    cases r1 with
    | cons r11 r12 =>
      exact rcDiff p1.isList p2.isList (by simp) (by omega) _ _ ⟨.bl false, H, I, rfl, q⟩
end
end Vd

namespace K29
open PySem PySem.Spec PyProof.Rows L2 Vd Evl
def letter (c : Nat) : Bool := decide (97 ≤ c ∧ c ≤ 122)
def isName : PyData → Bool
  | .str x => decide (1 ≤ x.length ∧ x.length ≤ 12) && x.cps.toList.all letter
  | _ => false
theorem one_lt (c d : Nat) : decide ([c] < [d]) = decide (c < d) := by
  by_cases h : c < d
  · rw [decide_eq_true h]
    exact decide_eq_true (List.Lex.rel h)
  · rw [decide_eq_false h]
    refine decide_eq_false fun z => ?_
    cases z with
    | rel z => exact h z
    | cons z => cases z
theorem letter_chain (c : Nat) : ((!decide ([c] < [97])) && (!decide ([122] < [c]))) = letter c := by
  rw [one_lt, one_lt]
  unfold letter
  by_cases h1 : c < 97
  · rw [decide_eq_true h1, decide_eq_false (show ¬ 122 < c by omega), decide_eq_false (show ¬ (97 ≤ c ∧ c ≤ 122) by omega)]
    rfl
  · rw [decide_eq_false h1]
    by_cases h2 : 122 < c
    · rw [decide_eq_true h2, decide_eq_false (show ¬ (97 ≤ c ∧ c ≤ 122) by omega)]
      rfl
    · rw [decide_eq_false h2, decide_eq_true (show 97 ≤ c ∧ c ≤ 122 by omega)]
      rfl
section
variable {P : Program} {w : World} {K : PySem.W.Frag} {mg : Str → Option Value} {base : Heap}
abbrev sName : Stmt := topS 8
theorem scName : FnScope ["thing", "letter"] ["thing"] (defScope sName) := ⟨rfl, rfl, rfl, by decide +kernel, rfl, by decide +kernel, by decide +kernel⟩
/-- texts are within the line -/
def spName (K : PySem.W.Frag) : Sp := fun vs H Q _ => ∃ v d, vs = [v] ∧ Dat K H v d ∧ (∀ x, d = .str x → x.length ≤ sizeLine) ∧ ∀ H', Same H H' → Q (.bl (isName d)) H'
theorem ok_name {f : Addr} {fd : FuncData} (F : At K mg "is_name" sName ["thing"] f fd) (my : mg "type" = none) (ms : mg "str" = none) (ml : mg "len" = none) (ma : mg "all" = none) : FnOk P w K mg base CX0 1 f fd ["thing"] (spName K) := by
  have bs_ : bootBuiltins "str" = some (.type "str") := by decide +kernel
  have by_ : bootBuiltins "type" = some (.type "type") := by decide +kernel
  have ba : bootBuiltins "all" = some (.builtin "all") := by decide +kernel
  refine F.fn.ok scName (fun vs H Q E h => ?_) (fun cdv A outer s H vs Q E hr h => ?_)
  · obtain ⟨v, d, rfl, _⟩ := h
    rfl
  · obtain ⟨v, d, rfl, dat, line, fin⟩ := h
    have nd := scName.nd
    refine ⟨_, pss_cons (ps_if (PW.pt (pw_or (pt_cmpR op_notTyB (pe_callTy call_type1 (by rfl) my by_ (pa_cons (pv 0) pa_nil)) (pe_bltn (by rfl) ms bs_ (v := .ty "str") rfl) (nomark _))
        (pw_or1 (pt_not (pt_chain op_le op_le pe_int (pe_callB call_len_str (by rfl) ml PySem.boot_len (pa_cons (pv 0) pa_nil)) pe_int))))) (pss_one (ps_ret pe_bl)) pss_nil)
      (pss_one (ps_ret (pe_callB (cr_all rfl) (by rfl) ma ba (pa_cons (pe_lc (own := [("letter", 1)]) (g := gName 1) (tt := tYes) rfl nd (pi_str (pv 0)) (blkOk_by (N := ["thing", "letter"]) (sc := defScope sName) (by decide +kernel))
        (fun _ _ _ _ _ => pg_name (i := 1) nd rfl (Or.inl rfl)) (fun _ _ _ _ _ => pts_nil) (fun _ _ _ _ _ => pe_chain op_le_str op_le_str pe_str (pv 1) pe_str)) pa_nil)))), ?_⟩
    refine ⟨_, rfl, v, kind d, rfl, Dat.tyb dat, kind d, "str", rfl, rfl, _, rfl, ?_⟩
    cases dat with
    | str x =>
      refine iteF ⟨_, rfl, x, rfl, line x rfl, _, _, rfl, rfl, _, rfl, ?_⟩
      have f1 : isName (.str x) = (decide (1 ≤ x.length ∧ x.length ≤ 12) && x.cps.toList.all letter) := rfl
      by_cases h1 : 1 ≤ x.length
      · rw [decide_eq_true (show (1 : Int) ≤ (x.length : Nat) by omega)]
        refine iteT ⟨_, _, rfl, rfl, _, rfl, ?_⟩
        by_cases h2 : x.length ≤ 12
        · rw [decide_eq_true (show ((x.length : Nat) : Int) ≤ 12 by omega)]
          refine iteF ⟨_, rfl, x, rfl, fun D nD => ?_⟩
          refine lc_it (walk_str (z := x)) (fun i G => G D = some (.lst (((x.cps.toList.take i).map letter).map V.bl)) ∧ Same H G) ⟨upd_same, same_new nD⟩ (fun _ _ _ _ => trivial) ?_ ?_
          · rintro i y G G' lt ⟨at_D, sG⟩ ⟨rfl, c, at_c, rfl⟩
            have at_c' : x.cps.toList[i]? = some c := by simpa using at_c
            have e1 : x.cps.toList.take (i + 1) = x.cps.toList.take i ++ [c] := by
              rw [List.take_succ, at_c']
              rfl
            have small : ((x.cps.toList.take i).map letter).map V.bl = ((x.cps.toList.take i).map letter).map V.bl := rfl
            refine ⟨rfl, ?_⟩
            refine ⟨_, rfl, _, _, rfl, rfl, _, rfl, ?_⟩
            have room : (((x.cps.toList.take i).map letter).map V.bl).length < sizeLine := by
              rw [List.length_map, List.length_map, List.length_take]
              refine small1000 ?_
              have : x.cps.toList.length = x.length := by simp [Str.length]
              omega
            have put : ∀ r : Bool, r = letter c → (upd G' D (.lst (((x.cps.toList.take i).map letter).map V.bl ++ [V.bl r]))) D = some (.lst (((x.cps.toList.take (i + 1)).map letter).map V.bl)) ∧ Same H (upd G' D (.lst (((x.cps.toList.take i).map letter).map V.bl ++ [V.bl r]))) := fun r e => by
              refine ⟨?_, fun p o z => ?_⟩
              · rw [upd_same, e1, List.map_append, List.map_append, e]
                rfl
              · rw [upd_ne (ne_of_none z nD)]
                exact sG _ _ z
            have lc := letter_chain c
            show if (!decide ([c] < [97])) = true then _ else _
            cases q : (!decide ([c] < [97])) with
            | true =>
              rw [q, Bool.true_and] at lc
              exact iteT ⟨_, _, rfl, rfl, _, at_D, room, put _ lc⟩
            | false =>
              rw [q, Bool.false_and] at lc
              exact iteF ⟨_, at_D, room, put _ lc⟩
          · rintro G ⟨at_D, sG⟩
            have e2 : x.cps.toList.take x.cps.size = x.cps.toList := by
              rw [List.take_of_length_le]
              simp
            rw [e2] at at_D
            refine ⟨D, _, rfl, SqL.of at_D, ?_⟩
            have := fin G sG
            rw [f1, decide_eq_true (⟨h1, h2⟩ : 1 ≤ x.length ∧ x.length ≤ 12), Bool.true_and] at this
            rw [List.all_map]
            exact this
        · rw [decide_eq_false (show ¬ ((x.length : Nat) : Int) ≤ 12 by omega)]
          have := fin H (Same.refl H)
          rw [f1, decide_eq_false (fun z : 1 ≤ x.length ∧ x.length ≤ 12 => h2 z.2), Bool.false_and] at this
          exact iteT this
      · rw [decide_eq_false (show ¬ (1 : Int) ≤ (x.length : Nat) by omega)]
        have := fin H (Same.refl H)
        rw [f1, decide_eq_false (fun z : 1 ≤ x.length ∧ x.length ≤ 12 => h1 z.1), Bool.false_and] at this
        exact iteF ⟨_, rfl, iteT this⟩
    | non => exact iteT (fin H (Same.refl H))
    | bl b => exact iteT (fin H (Same.refl H))
    | int i => exact iteT (fin H (Same.refl H))
    | tup a b => exact iteT (fin H (Same.refl H))
    | lst a b => exact iteT (fin H (Same.refl H))
    | dic a b => exact iteT (fin H (Same.refl H))
abbrev sLName : Stmt := topS 28
theorem scLName : FnScope ["thing", "sign"] ["thing"] (defScope sLName) := ⟨rfl, rfl, rfl, by decide +kernel, rfl, by decide +kernel, by decide +kernel⟩
/-- texts that the law's own reading can compare -/
def spLName (K : PySem.W.Frag) : Sp := fun vs H Q _ => ∃ v d, vs = [v] ∧ Dat K H v d ∧ (∀ x, d = .str x → x.length ≤ sizeLine ∧ ∀ c ∈ x.cps.toList, PyData.strOk ⟨#[c]⟩ = true) ∧ ∀ H', Same H H' → Q (.bl (isName d)) H'
theorem letters_in (c : Nat) : decide (c ∈ (Str.ofString "abcdefghijklmnopqrstuvwxyz").cps.toList) = letter c := by
  have e : (Str.ofString "abcdefghijklmnopqrstuvwxyz").cps.toList = [97, 98, 99, 100, 101, 102, 103, 104, 105, 106, 107, 108, 109, 110, 111, 112, 113, 114, 115, 116, 117, 118, 119, 120, 121, 122] := by decide +kernel
  rw [e]
  unfold letter
  by_cases h : 97 ≤ c ∧ c ≤ 122
  · rw [decide_eq_true h]
    refine decide_eq_true ?_
    simp only [List.mem_cons, List.not_mem_nil, or_false]
    omega
  · rw [decide_eq_false h]
    refine decide_eq_false fun m => h ?_
    simp only [List.mem_cons, List.not_mem_nil, or_false] at m
    omega
def oneS (c : Nat) : Str := ⟨#[c]⟩
theorem bad_dats {H : Hp} : ∀ cs : List Nat, DatAll K H (cs.map fun c => V.str (oneS c)) (cs.map fun c => PyData.str (oneS c))
  | [] => .nil
  | c :: cs => .cons (.str _) (bad_dats cs)
theorem bad_shaped {cs : List Nat} (h : ∀ c ∈ cs, PyData.strOk (oneS c) = true) : SeqAt.shaped (.list (cs.map fun c => PyData.str (oneS c))) = true := by
  have lay : ∀ l : List Nat, (∀ c ∈ l, PyData.strOk (oneS c) = true) → PyData.canLayAll0 (l.map fun c => PyData.str (oneS c)) = true ∧ PyData.depthAll (l.map fun c => PyData.str (oneS c)) = 0 := by
    intro l
    induction l with
    | nil => exact fun _ => ⟨by simp [PyData.canLayAll0], by simp [PyData.depthAll]⟩
    | cons c l ih =>
      intro all
      obtain ⟨i1, i2⟩ := ih fun d m => all d (.tail _ m)
      refine ⟨?_, ?_⟩
      · simp only [List.map_cons, PyData.canLayAll0, PyData.canLay0, all c (.head _), i1, Bool.and_self]
      · simp only [List.map_cons, PyData.depthAll, i2, PyData.depth]
        decide
  obtain ⟨l1, l2⟩ := lay cs h
  unfold SeqAt.shaped
  have e1 : (PyData.list (cs.map fun c => PyData.str (oneS c))).canLay0 = true := by simpa [PyData.canLay0] using l1
  have e2 : (PyData.list (cs.map fun c => PyData.str (oneS c))).depth ≤ 64 := by
    show PyData.depthAll _ + 1 ≤ 64
    rw [l2]
    decide
  rw [e1, decide_eq_true e2]
  rfl
theorem bad_eqv (cs : List Nat) : PyData.eqv (.list (cs.map fun c => PyData.str (oneS c))) (.list []) = cs.isEmpty := by
  cases cs <;> simp [PyData.eqv, PyData.eqvAll]
theorem filter_none (cs : List Nat) : (cs.filter fun c => !letter c).isEmpty = cs.all letter := by
  induction cs with
  | nil => rfl
  | cons c cs ih =>
    cases e : letter c with
    | true => rw [List.filter_cons_of_neg (by rw [e]; decide), ih, List.all_cons, e, Bool.true_and]
    | false =>
      rw [List.filter_cons_of_pos (by rw [e]; rfl), List.all_cons, e]
      rfl
theorem ok_lname {f : Addr} {fd : FuncData} (F : At K mg "_law_is_name" sLName ["thing"] f fd) (mn : mg "isinstance" = none) (ms : mg "str" = none) (ml : mg "len" = none) (ks : KT K "str" isStr) : FnOk P w K mg base CX0 1 f fd ["thing"] (spLName K) := by
  have bs_ : bootBuiltins "str" = some (.type "str") := by decide +kernel
  have bi : bootBuiltins "isinstance" = some (.builtin "isinstance") := PyProof.Rows.boot_isinstance
  refine F.fn.ok scLName (fun vs H Q E h => ?_) (fun cdv A outer s H vs Q E hr h => ?_)
  · obtain ⟨v, d, rfl, _⟩ := h
    rfl
  · obtain ⟨v, d, rfl, dat, line, fin⟩ := h
    have nd := scLName.nd
    refine ⟨_, pss_cons (ps_if (PW.pt (pw_or (pt_not (pt_val (pe_callB call_isi (by rfl) mn bi (pa_cons (pv 0) (pa_cons (pe_bltn (by rfl) ms bs_ (v := .ty "str") rfl) pa_nil)))))
        (pw_or1 (pt_not (pt_chain op_le op_le pe_int (pe_callB call_len_str (by rfl) ml PySem.boot_len (pa_cons (pv 0) pa_nil)) pe_int))))) (pss_one (ps_ret pe_bl)) pss_nil)
      (pss_one (ps_ret (pe_cmpR (op_eqG hr.units) (pe_lc (own := [("sign", 1)]) (g := gName 1) rfl nd (pi_str (pv 0)) (blkOk_by (N := ["thing", "sign"]) (sc := defScope sLName) (by decide +kernel))
        (fun _ _ _ _ _ => pg_name (i := 1) nd rfl (Or.inl rfl)) (fun _ _ _ _ _ => pts_one (pt_cmpR op_notin_str (pv 1) pe_str rfl)) (fun _ _ _ _ _ => pv 1)) (pe_lst pa_nil) (nomark _)))), ?_⟩
    obtain ⟨t, tx, k1⟩ := ks.of dat
    refine ⟨_, rfl, v, .ty "str", t, .type "str", _, rfl, .ty "str", tx, k1, _, rfl, ?_⟩
    cases dat with
    | str x =>
      obtain ⟨ln, okc⟩ := line x rfl
      refine iteF ⟨_, rfl, x, rfl, ln, _, _, rfl, rfl, _, rfl, ?_⟩
      have f1 : isName (.str x) = (decide (1 ≤ x.length ∧ x.length ≤ 12) && x.cps.toList.all letter) := rfl
      by_cases h1 : 1 ≤ x.length
      · rw [decide_eq_true (show (1 : Int) ≤ (x.length : Nat) by omega)]
        refine iteT ⟨_, _, rfl, rfl, _, rfl, ?_⟩
        by_cases h2 : x.length ≤ 12
        · rw [decide_eq_true (show ((x.length : Nat) : Int) ≤ 12 by omega)]
          refine iteF ⟨_, rfl, x, rfl, fun D nD => ?_⟩
          refine lc_it (walk_str (z := x)) (fun i G => G D = some (.lst (((x.cps.toList.take i).filter fun c => !letter c).map fun c => V.str (oneS c))) ∧ Same H G) ⟨upd_same, same_new nD⟩ (fun _ _ _ _ => trivial) ?_ ?_
          · rintro i y G G' lt ⟨at_D, sG⟩ ⟨rfl, c, at_c, rfl⟩
            have at_c' : x.cps.toList[i]? = some c := by simpa using at_c
            have e1 : x.cps.toList.take (i + 1) = x.cps.toList.take i ++ [c] := by
              rw [List.take_succ, at_c']
              rfl
            have found : (!(Builtin.Str.occurrences (Str.ofString "abcdefghijklmnopqrstuvwxyz") (oneS c) 0 (Str.ofString "abcdefghijklmnopqrstuvwxyz").length 1).isEmpty) = letter c := by
              rw [← letters_in c]
              exact StrLaws.found_one _ c
            refine ⟨rfl, _, rfl, _, _, rfl, rfl, _, rfl, ?_⟩
            show if (!(!(Builtin.Str.occurrences (Str.ofString "abcdefghijklmnopqrstuvwxyz") (oneS c) 0 (Str.ofString "abcdefghijklmnopqrstuvwxyz").length 1).isEmpty)) = true then _ else _
            rw [found]
            cases q : letter c with
            | true =>
              refine iteF ⟨?_, sG⟩
              rw [e1, List.filter_append, List.filter_cons_of_neg (by rw [q]; decide), List.filter_nil, List.append_nil]
              exact at_D
            | false =>
              refine iteT ⟨_, rfl, _, at_D, ?_, ?_, fun p o z => ?_⟩
              · rw [List.length_map]
                refine small1000 (Nat.le_trans (List.length_filter_le _ _) ?_)
                rw [List.length_take]
                have : x.cps.toList.length = x.length := by simp [Str.length]
                omega
              · rw [upd_same, e1, List.filter_append, List.filter_cons_of_pos (by rw [q]; rfl), List.filter_nil, List.map_append]
                rfl
              · rw [upd_ne (ne_of_none z nD)]
                exact sG _ _ z
          · rintro G ⟨at_D, sG⟩
            have e2 : x.cps.toList.take x.cps.size = x.cps.toList := by
              rw [List.take_of_length_le]
              simp
            rw [e2] at at_D
            refine ⟨Nat.zero_le _, fun p np => ?_⟩
            have sp := same_new (o := .lst []) np
            refine ⟨_, .list [], .lst (SqL.of (sp _ _ at_D)) (bad_dats _), .lst (SqL.of upd_same) .nil, bad_shaped fun c m => okc c (List.mem_filter.mp m).1, by decide +kernel, ?_⟩
            have := fin _ (sG.trans sp)
            rw [f1, decide_eq_true (⟨h1, h2⟩ : 1 ≤ x.length ∧ x.length ≤ 12), Bool.true_and, ← filter_none] at this
            rw [bad_eqv]
            exact this
        · rw [decide_eq_false (show ¬ ((x.length : Nat) : Int) ≤ 12 by omega)]
          have := fin H (Same.refl H)
          rw [f1, decide_eq_false (fun z : 1 ≤ x.length ∧ x.length ≤ 12 => h2 z.2), Bool.false_and] at this
          exact iteT this
      · rw [decide_eq_false (show ¬ (1 : Int) ≤ (x.length : Nat) by omega)]
        have := fin H (Same.refl H)
        rw [f1, decide_eq_false (fun z : 1 ≤ x.length ∧ x.length ≤ 12 => h1 z.1), Bool.false_and] at this
        exact iteF ⟨_, rfl, iteT this⟩
    | non => exact iteT (fin H (Same.refl H))
    | bl b => exact iteT (fin H (Same.refl H))
    | int i => exact iteT (fin H (Same.refl H))
    | tup a b => exact iteT (fin H (Same.refl H))
    | lst a b => exact iteT (fin H (Same.refl H))
    | dic a b => exact iteT (fin H (Same.refl H))
end
end K29

namespace K29
open PySem PySem.Spec PyProof.Rows L2 Vd Evl
theorem txt_line {d : PyData} (h : txt d = true) : ∀ x, d = .str x → x.length ≤ sizeLine := fun x e => by
  subst e
  simp only [txt, Bool.and_eq_true] at h
  exact Nat.le_trans (of_decide_eq_true h.1) (by rw [sizeLine_eq]; decide)
theorem txt_ok {d : PyData} (h : txt d = true) : ∀ x, d = .str x → x.length ≤ sizeLine ∧ ∀ c ∈ x.cps.toList, PyData.strOk ⟨#[c]⟩ = true := fun x e => by
  refine ⟨txt_line h x e, fun c m => ?_⟩
  subst e
  simp only [txt, Bool.and_eq_true] at h
  have := List.all_eq_true.mp h.2 c m
  have lt : c < 0x110000 := of_decide_eq_true this
  simp [PyData.strOk, lt]
theorem txts_mem : ∀ {ds : List PyData}, txts ds = true → ∀ d ∈ ds, txt d = true
  | [], _, d, no => nomatch no
  | x :: xs, h, d, m => by
    simp only [txts, Bool.and_eq_true] at h
    cases m with
    | head => exact h.1
    | tail _ m => exact txts_mem h.2 d m
def arePurses : PyData → Bool
  | .tuple ps => ps.all isPurse
  | _ => false
def isMach : PyData → Bool
  | .tuple [a, b, c] => isName a && (isAbove 1 b && arePurses c)
  | _ => false
section
variable {P : Program} {w : World} {K : PySem.W.Frag} {mg : Str → Option Value} {base : Heap}
abbrev sPurs : Stmt := topS 11
abbrev sMach : Stmt := topS 12
theorem scPurs : FnScope ["thing", "purse"] ["thing"] (defScope sPurs) := ⟨rfl, rfl, rfl, by decide +kernel, rfl, by decide +kernel, by decide +kernel⟩
theorem scMach : FnScope ["thing", "name", "time", "purses"] ["thing"] (defScope sMach) := ⟨rfl, rfl, rfl, by decide +kernel, rfl, by decide +kernel, by decide +kernel⟩
theorem dats_at {H : Hp} : ∀ {xs : List V} {ds : List PyData}, DatAll K H xs ds → ∀ (i : Nat) (x : V), xs[i]? = some x → ∃ d, ds[i]? = some d ∧ Dat K H x d
  | _, _, .nil, i, x, e => by cases i <;> cases e
  | _, _, .cons a r, 0, x, e => by cases e; exact ⟨_, rfl, a⟩
  | _, _, .cons a r, i + 1, x, e => dats_at r i x e
theorem ok_purs {f fU fT fP fC fI : Addr} {fd fdU fdT fdP fdC fdI : FuncData} (F : At K mg "are_purses" sPurs ["thing"] f fd) (Pu : At K mg "is_purse" sPurse ["thing"] fU fdU) (To : At K mg "is_tuple_of" sTupOf ["thing", "many"] fT fdT) (Po : At K mg "is_positive" sPos ["thing"] fP fdP)
    (Co : At K mg "is_count" sCount ["thing"] fC fdC) (Ii : At K mg "is_integer" sInt_ ["thing"] fI fdI) (my : mg "type" = none) (mi : mg "int" = none) (mt : mg "tuple" = none) (ml : mg "len" = none) (ma : mg "all" = none) :
    FnOk P w K mg base CX0 4 f fd ["thing"] (fun vs H Q _ => ∃ v d, vs = [v] ∧ Dat K H v d ∧ (∀ ds, d = .tuple ds → ds.length ≤ 100000) ∧ ∀ H', Same H H' → Q (.bl (arePurses d)) H') := by
  have GU : FnOk P w K mg base CX0 3 fU fdU ["thing"] (spIs K isPurse) := ok_purse Pu To Po Co Ii my mi mt ml
  have bt : bootBuiltins "tuple" = some (.type "tuple") := by decide +kernel
  have by_ : bootBuiltins "type" = some (.type "type") := by decide +kernel
  have ba : bootBuiltins "all" = some (.builtin "all") := by decide +kernel
  refine F.fn.ok scPurs (fun vs H Q E h => ?_) (fun cdv A outer s H vs Q E hr h => ?_)
  · obtain ⟨v, d, rfl, _⟩ := h
    rfl
  · obtain ⟨v, d, rfl, dat, few, fin⟩ := h
    have nd := scPurs.nd
    refine ⟨_, pss_one (ps_ret (pe_and (pe_cmpR op_isTyB (pe_callTy call_type1 (by rfl) my by_ (pa_cons (pv 0) pa_nil)) (pe_bltn (by rfl) mt bt (v := .ty "tuple") rfl) (nomark _))
      (pe_one (pe_callB (cr_all rfl) (by rfl) ma ba (pa_cons (pe_lc (own := [("purse", 1)]) (g := gName 1) (tt := tYes) rfl nd (pi_tup (pv 0)) (blkOk_by (N := ["thing", "purse"]) (sc := defScope sPurs) (by decide +kernel))
        (fun _ _ _ _ _ => pg_name (i := 1) nd rfl (Or.inl rfl)) (fun _ _ _ _ _ => pts_nil) (fun _ _ _ _ _ => pe_call GU hr (by rfl) Pu.g Pu.fn.kp Pu.b .nil pass0 (pa_cons (pv 1) pa_nil))) pa_nil))))), ?_⟩
    refine ⟨_, rfl, v, kind d, rfl, Dat.tyb dat, kind d, "tuple", rfl, rfl, _, rfl, ?_⟩
    cases dat with
    | @tup a xs ds sq all =>
      refine iteT ⟨_, rfl, a, rfl, ⟨xs, sq⟩, fun D nD => ?_⟩
      have few' := few ds rfl
      have len := dats_len all
      refine lc_tup (K := K) (a := a) (xs := xs) (fun i G => G D = some (.lst (((ds.take i).map isPurse).map V.bl)) ∧ Same H G) ⟨upd_same, same_new nD⟩ (fun i G _ ⟨_, sG⟩ => sqt_up sG sq) ?_ ?_
      · rintro i x G at_i ⟨at_D, sG⟩
        obtain ⟨d, at_d, dx⟩ := dats_at all i x at_i
        refine ⟨rfl, _, rfl, x, d, rfl, Dat.up sG dx, fun G1 s1 => ?_⟩
        have e1 : ds.take (i + 1) = ds.take i ++ [d] := by
          rw [List.take_succ, at_d]
          rfl
        refine ⟨_, s1 _ _ at_D, ?_, ?_, fun p o z => ?_⟩
        · rw [List.length_map, List.length_map, List.length_take]
          exact Nat.lt_of_le_of_lt (Nat.le_trans (Nat.min_le_right _ _) few') (by rw [sizeLine_eq]; decide)
        · rw [upd_same, e1, List.map_append, List.map_append]
          rfl
        · rw [upd_ne (ne_of_none z nD)]
          exact s1 _ _ (sG _ _ z)
      · rintro G ⟨at_D, sG⟩
        rw [len, List.take_length] at at_D
        refine ⟨D, _, rfl, SqL.of at_D, ?_⟩
        rw [List.all_map]
        exact fin G sG
    | non => exact iteF (fin H (Same.refl H))
    | bl b => exact iteF (fin H (Same.refl H))
    | int i => exact iteF (fin H (Same.refl H))
    | str x => exact iteF (fin H (Same.refl H))
    | lst a b => exact iteF (fin H (Same.refl H))
    | dic a b => exact iteF (fin H (Same.refl H))
/-- a test of one value within bounds -/
def spOn (K : PySem.W.Frag) (f : PyData → Bool) : Sp := fun vs H Q _ => ∃ v d, vs = [v] ∧ Dat K H v d ∧ txt d = true ∧ wgt d ≤ 100000 ∧ ∀ H', Same H H' → Q (.bl (f d)) H'
theorem three_of {H : Hp} {xs : List V} {ds : List PyData} (h : DatAll K H xs ds) (e : ds.length = 3) : ∃ x y z d1 d2 d3, xs = [x, y, z] ∧ ds = [d1, d2, d3] ∧ Dat K H x d1 ∧ Dat K H y d2 ∧ Dat K H z d3 := by
  match ds, e with
  | [d1, d2, d3], _ =>
    cases h with
    | cons a r =>
      cases r with
      | cons b r =>
        cases r with
        | cons c r =>
          cases r
          exact ⟨_, _, _, _, _, _, rfl, rfl, a, b, c⟩
theorem mach_no {d : PyData} (h : isTup 3 d = false) : isMach d = false := by
  cases d with
  | tuple ds =>
    match ds, h with
    | [], _ => rfl
    | [_], _ => rfl
    | [_, _], _ => rfl
    | [a, b, c], h => cases h
    | _ :: _ :: _ :: _ :: _, _ => rfl
  | _ => rfl
theorem len_wgts : ∀ ds : List PyData, ds.length ≤ wgts ds
  | [] => Nat.zero_le _
  | d :: ds => by
    have := len_wgts ds
    simp only [List.length_cons, wgts]
    omega
theorem wgts_mem : ∀ {ds : List PyData}, ∀ d ∈ ds, wgt d ≤ wgts ds
  | [], d, no => nomatch no
  | x :: xs, d, m => by
    cases m with
    | head => simp only [wgts]; omega
    | tail _ m =>
      have := wgts_mem (ds := xs) d m
      simp only [wgts]
      omega
theorem parts {ds : List PyData} (t : txt (.tuple ds) = true) (g : wgt (.tuple ds) ≤ 100000) : ∀ d ∈ ds, txt d = true ∧ wgt d ≤ 100000 := fun d m => by
  refine ⟨txts_mem (by simpa [txt] using t) d m, ?_⟩
  have a := wgts_mem d m
  have b : wgts ds + 4 ≤ 100000 := g
  omega
theorem few_of {d : PyData} (g : wgt d ≤ 100000) : ∀ ds, d = .tuple ds → ds.length ≤ 100000 := fun ds e => by
  subst e
  have a := len_wgts ds
  have b : wgts ds + 4 ≤ 100000 := g
  omega
theorem ok_mach {f fN fS fU fT fP fC fI : Addr} {fd fdN fdS fdU fdT fdP fdC fdI : FuncData} (F : At K mg "is_machine" sMach ["thing"] f fd) (Na : At K mg "is_name" sName ["thing"] fN fdN) (Ps : At K mg "are_purses" sPurs ["thing"] fS fdS) (Pu : At K mg "is_purse" sPurse ["thing"] fU fdU)
    (To : At K mg "is_tuple_of" sTupOf ["thing", "many"] fT fdT) (Po : At K mg "is_positive" sPos ["thing"] fP fdP) (Co : At K mg "is_count" sCount ["thing"] fC fdC) (Ii : At K mg "is_integer" sInt_ ["thing"] fI fdI) (my : mg "type" = none) (mi : mg "int" = none) (mt : mg "tuple" = none)
    (ml : mg "len" = none) (ma : mg "all" = none) (ms : mg "str" = none) : FnOk P w K mg base CX0 5 f fd ["thing"] (spOn K isMach) := by
  have GT : FnOk P w K mg base CX0 1 fT fdT ["thing", "many"] (spTupOf K) := ok_tupof To my mt ml
  have GP : FnOk P w K mg base CX0 2 fP fdP ["thing"] (spIs K (isAbove 1)) := ok_pos Po Ii my mi
  have GN : FnOk P w K mg base CX0 1 fN fdN ["thing"] (spName K) := ok_name Na my ms ml ma
  have GS : FnOk P w K mg base CX0 4 fS fdS ["thing"] _ := ok_purs Ps Pu To Po Co Ii my mi mt ml ma
  refine F.fn.ok scMach (fun vs H Q E h => ?_) (fun cdv A outer s H vs Q E hr h => ?_)
  · obtain ⟨v, d, rfl, _⟩ := h
    rfl
  · obtain ⟨v, d, rfl, dat, tx, low, fin⟩ := h
    have nd := scMach.nd
    have hr1 : Room 1 _ := hr.mono (by decide)
    have hr2 : Room 2 _ := hr.mono (by decide)
    refine ⟨_, pss_cons (ps_if (pt_not (pt_val (pe_call GT hr1 (by rfl) To.g To.fn.kp To.b .nil pass0 (pa_cons (pv 0) (pa_cons pe_int pa_nil))))) (pss_one (ps_ret pe_bl)) pss_nil)
      (pss_cons (ps_asg (pv 0) (pg_tup rfl (pgs_cons (pg_name (i := 1) nd rfl (Or.inl rfl)) (pgs_cons (pg_name (i := 2) nd rfl (Or.inl rfl)) (pgs_cons (pg_name (i := 3) nd rfl (Or.inl rfl)) pgs_nil)))))
      (pss_one (ps_ret (pe_and (pe_call GN hr1 (by rfl) Na.g Na.fn.kp Na.b .nil pass0 (pa_cons (pv 1) pa_nil)) (pe_and (pe_call GP hr2 (by rfl) Po.g Po.fn.kp Po.b .nil pass0 (pa_cons (pv 2) pa_nil))
        (pe_one (pe_call GS hr (by rfl) Ps.g Ps.fn.kp Ps.b .nil pass0 (pa_cons (pv 3) pa_nil)))))))), ?_⟩
    refine ⟨_, rfl, v, d, 3, rfl, dat, _, rfl, ?_⟩
    rcases tup_cases 3 dat with no | ⟨a, xs, ds, rfl, rfl, sq, all, len, yes⟩
    · rw [show isTup 3 d = false from no]
      have := fin H (Same.refl H)
      rw [mach_no no] at this
      exact iteT this
    · rw [show isTup 3 (.tuple ds) = true from yes]
      obtain ⟨x, y, z, d1, d2, d3, rfl, rfl, q1, q2, q3⟩ := three_of all len
      have pr := parts tx low
      refine iteF ⟨_, rfl, a, _, rfl, sq, rfl, _, _, rfl, _, _, rfl, _, _, rfl, rfl, ?_⟩
      refine ⟨_, rfl, x, d1, rfl, q1, txt_line (pr d1 (by simp)).1, fun H1 s1 => ⟨_, rfl, ?_⟩⟩
      have f1 : isMach (.tuple [d1, d2, d3]) = (isName d1 && (isAbove 1 d2 && arePurses d3)) := rfl
      cases e : isName d1 with
      | false =>
        have := fin H1 s1
        rw [f1, e, Bool.false_and] at this
        exact iteF this
      | true =>
        refine iteT ⟨_, rfl, y, d2, rfl, Dat.up s1 q2, fun H2 s2 => ⟨_, rfl, ?_⟩⟩
        cases e2 : isAbove 1 d2 with
        | false =>
          have := fin H2 (s1.trans s2)
          rw [f1, e, e2, Bool.true_and, Bool.false_and] at this
          exact iteF this
        | true =>
          refine iteT ⟨_, rfl, z, d3, rfl, Dat.up (s1.trans s2) q3, few_of (pr d3 (by simp)).2, fun H3 s3 => ?_⟩
          have := fin H3 ((s1.trans s2).trans s3)
          rw [f1, e, e2, Bool.true_and, Bool.true_and] at this
          exact this
end
end K29

namespace K29
open PySem PySem.Spec PyProof.Rows L2 Vd Evl
section
variable {P : Program} {w : World} {K : PySem.W.Frag} {mg : Str → Option Value} {base : Heap}
abbrev sLMach : Stmt := topS 31
theorem scLMach : FnScope ["thing", "one"] ["thing"] (defScope sLMach) := ⟨rfl, rfl, rfl, by decide +kernel, rfl, by decide +kernel, by decide +kernel⟩
/-- those of some values that are no PURSES -/
def badV (xs : List V) (ds : List PyData) : List V := ((xs.zip ds).filter fun q => !isPurse q.2).map (·.1)
theorem badV_empty : ∀ {xs : List V} {ds : List PyData}, xs.length = ds.length → (badV xs ds).isEmpty = ds.all isPurse
  | [], [], _ => rfl
  | x :: xs, d :: ds, h => by
    have ih := badV_empty (xs := xs) (ds := ds) (by simpa using h)
    unfold badV at ih ⊢
    rw [List.zip_cons_cons]
    cases e : isPurse d with
    | true =>
      rw [List.filter_cons_of_neg (by show ¬ (!isPurse d) = true; rw [e]; decide), List.all_cons, e, Bool.true_and]
      exact ih
    | false =>
      rw [List.filter_cons_of_pos (by show (!isPurse d) = true; rw [e]; rfl), List.all_cons, e]
      rfl
theorem ok_lmach {f fN fU fA fI : Addr} {fd fdN fdU fdA fdI : FuncData} (F : At K mg "_law_is_machine" sLMach ["thing"] f fd) (Na : At K mg "_law_is_name" sLName ["thing"] fN fdN) (Pu : At K mg "_law_is_purse" sLPurse ["thing"] fU fdU) (Ab : At K mg "_law_is_above" sLAbove ["thing", "least"] fA fdA)
    (Ii : At K mg "_law_is_int" sLInt ["thing"] fI fdI) (mn : mg "isinstance" = none) (mi : mg "int" = none) (mb : mg "bool" = none) (mt : mg "tuple" = none) (ml : mg "len" = none) (ms : mg "str" = none) (ki : KT K "int" wideInt) (kb : KT K "bool" isBool) (kt : KT K "tuple" anyTup) (ks : KT K "str" isStr) :
    FnOk P w K mg base CX0 4 f fd ["thing"] (spOn K isMach) := by
  have GA : FnOk P w K mg base CX0 2 fA fdA ["thing", "least"] (spAbove K) := ok_labove Ab Ii mn mi mb ki kb
  have GU : FnOk P w K mg base CX0 3 fU fdU ["thing"] (spIs K isPurse) := ok_lpurse Pu Ab Ii mn mi mb mt ml ki kb kt
  have GN : FnOk P w K mg base CX0 1 fN fdN ["thing"] (spLName K) := ok_lname Na mn ms ml ks
  have bi : bootBuiltins "isinstance" = some (.builtin "isinstance") := PyProof.Rows.boot_isinstance
  have bt : bootBuiltins "tuple" = some (.type "tuple") := by decide +kernel
  refine F.fn.ok scLMach (fun vs H Q E h => ?_) (fun cdv A outer s H vs Q E hr h => ?_)
  · obtain ⟨v, d, rfl, _⟩ := h
    rfl
  · obtain ⟨v, d, rfl, dat, tx, low, fin⟩ := h
    have nd := scLMach.nd
    have hr1 : Room 1 _ := hr.mono (by decide)
    have hr2 : Room 2 _ := hr.mono (by decide)
    refine ⟨_, pss_cons (ps_if (PW.pt (pw_or (pt_not (pt_val (pe_callB call_isi (by rfl) mn bi (pa_cons (pv 0) (pa_cons (pe_bltn (by rfl) mt bt (v := .ty "tuple") rfl) pa_nil)))))
        (pw_or (pt_cmpR op_ne (pe_callB call_len_seq (by rfl) ml PySem.boot_len (pa_cons (pv 0) pa_nil)) pe_int (nomark _))
        (pw_or (pt_not (pt_val (pe_call GN hr1 (by rfl) Na.g Na.fn.kp Na.b .nil pass0 (pa_cons (pe_ix ix_tup (pv 0) pe_int (fun _ _ => rfl)) pa_nil))))
        (pw_or1 (pt_not (pt_val (pe_call GA hr2 (by rfl) Ab.g Ab.fn.kp Ab.b .nil pass0 (pa_cons (pe_ix ix_tup (pv 0) pe_int (fun _ _ => rfl)) (pa_cons pe_int pa_nil)))))))))) (pss_one (ps_ret pe_bl)) pss_nil)
      (pss_one (ps_ret (pe_and (pe_callB call_isi (by rfl) mn bi (pa_cons (pe_ix ix_tup (pv 0) pe_int (fun _ _ => rfl)) (pa_cons (pe_bltn (by rfl) mt bt (v := .ty "tuple") rfl) pa_nil)))
        (pe_one (pe_cmpR (op_eqNil hr.units) (pe_lc (own := [("one", 1)]) (g := gName 1) rfl nd (pi_tup (pe_ix ix_tup (pv 0) pe_int (fun _ _ => rfl))) (blkOk_by (N := ["thing", "one"]) (sc := defScope sLMach) (by decide +kernel))
          (fun _ _ _ _ _ => pg_name (i := 1) nd rfl (Or.inl rfl)) (fun _ _ _ _ _ => pts_one (pt_not (pt_val (pe_call GU hr (by rfl) Pu.g Pu.fn.kp Pu.b .nil pass0 (pa_cons (pv 1) pa_nil))))) (fun _ _ _ _ _ => pv 1)) (pe_lst pa_nil) (nomark _)))))), ?_⟩
    obtain ⟨t, tyx, k1⟩ := kt.of dat
    refine ⟨_, rfl, v, .ty "tuple", t, .type "tuple", _, rfl, .ty "tuple", tyx, k1, _, rfl, ?_⟩
    have out : isTup 3 d = false → Q (.bl false) H := fun no => by
      have := fin H (Same.refl H)
      rwa [mach_no no] at this
    cases dat with
    | @tup a xs ds sq all =>
      refine iteF ⟨_, rfl, a, xs, rfl, .inr sq, rfl, _, rfl, ?_⟩
      have len := dats_len all
      by_cases e : ds.length = 3
      · have c : (!decide (V.int (xs.length : Nat) = V.int 3)) = false := by
          rw [len, e]
          decide
        rw [c]
        obtain ⟨x, y, z, d1, d2, d3, rfl, rfl, q1, q2, q3⟩ := three_of all e
        have pr := parts tx low
        have f1 : isMach (.tuple [d1, d2, d3]) = (isName d1 && (isAbove 1 d2 && arePurses d3)) := rfl
        refine iteF ⟨_, rfl, a, _, 0, x, rfl, rfl, sq, rfl, x, d1, rfl, q1, txt_ok (pr d1 (by simp)).1, fun H1 s1 => ⟨_, rfl, ?_⟩⟩
        cases e1 : isName d1 with
        | false =>
          have := fin H1 s1
          rw [f1, e1, Bool.false_and] at this
          exact iteT (iteT this)
        | true =>
          refine iteF ⟨_, rfl, a, _, 1, y, rfl, rfl, sqt_up s1 sq, rfl, y, d2, 1, rfl, Dat.up s1 q2, fun H2 s2 => ⟨_, rfl, ?_⟩⟩
          cases e2 : isAbove 1 d2 with
          | false =>
            have := fin H2 (s1.trans s2)
            rw [f1, e1, e2, Bool.true_and, Bool.false_and] at this
            exact iteT this
          | true =>
            have q3' := Dat.up (s1.trans s2) q3
            obtain ⟨t3, tyx3, k3⟩ := kt.of q3'
            refine iteF ⟨_, rfl, a, _, 2, z, rfl, rfl, sqt_up (s1.trans s2) sq, rfl, z, .ty "tuple", t3, .type "tuple", _, rfl, .ty "tuple", tyx3, k3, _, rfl, ?_⟩
            have no3 : arePurses d3 = false → Q (.bl false) H2 := fun no => by
              have := fin H2 (s1.trans s2)
              rwa [f1, e1, e2, Bool.true_and, Bool.true_and, no] at this
            cases q3' with
            | @tup a3 ys es sq3 all3 =>
              refine iteT ⟨_, rfl, a, _, 2, .ref a3, rfl, rfl, sqt_up (s1.trans s2) sq, rfl, a3, rfl, ⟨ys, sq3⟩, fun D nD => ?_⟩
              have len3 := dats_len all3
              have few3 := few_of (pr (.tuple es) (by simp)).2 es rfl
              refine lc_tup (K := K) (a := a3) (xs := ys) (fun i G => G D = some (.lst (badV (ys.take i) (es.take i))) ∧ Same H2 G) ⟨upd_same, same_new nD⟩ (fun i G _ ⟨_, sG⟩ => sqt_up sG sq3) ?_ ?_
              · rintro i u G at_i ⟨at_D, sG⟩
                obtain ⟨du, at_d, dx⟩ := dats_at all3 i u at_i
                have grow : badV (ys.take (i + 1)) (es.take (i + 1)) = badV (ys.take i) (es.take i) ++ (if isPurse du = true then [] else [u]) := by
                  unfold badV
                  have z1 : ys.take (i + 1) = ys.take i ++ [u] := by
                    rw [List.take_succ, at_i]
                    rfl
                  have z2 : es.take (i + 1) = es.take i ++ [du] := by
                    rw [List.take_succ, at_d]
                    rfl
                  rw [z1, z2, List.zip_append (by rw [List.length_take, List.length_take, len3]), List.filter_append, List.map_append]
                  cases eu : isPurse du with
                  | true =>
                    rw [List.zip_cons_cons, List.filter_cons_of_neg (by show ¬ (!isPurse du) = true; rw [eu]; decide)]
                    rfl
                  | false =>
                    rw [List.zip_cons_cons, List.filter_cons_of_pos (by show (!isPurse du) = true; rw [eu]; rfl)]
                    rfl
                refine ⟨rfl, _, rfl, u, du, rfl, Dat.up sG dx, fun G1 s1' => ⟨_, rfl, ?_⟩⟩
                cases eu : isPurse du with
                | true =>
                  rw [eu, if_pos rfl, List.append_nil] at grow
                  exact iteF ⟨by rw [grow]; exact s1' _ _ at_D, sG.trans s1'⟩
                | false =>
                  rw [eu, if_neg (by decide)] at grow
                  refine iteT ⟨_, rfl, _, s1' _ _ at_D, ?_, ?_, fun p o zz => ?_⟩
                  · have small : (badV (ys.take i) (es.take i)).length ≤ es.length := by
                      unfold badV
                      rw [List.length_map]
                      refine Nat.le_trans (List.length_filter_le _ _) ?_
                      rw [List.length_zip, List.length_take, List.length_take]
                      omega
                    exact Nat.lt_of_le_of_lt (Nat.le_trans small few3) (by rw [sizeLine_eq]; decide)
                  · rw [upd_same, grow]
                  · rw [upd_ne (ne_of_none zz nD)]
                    exact s1' _ _ (sG _ _ zz)
              · rintro G ⟨at_D, sG⟩
                rw [List.take_length, len3, List.take_length] at at_D
                refine ⟨Nat.zero_le _, fun p np => ?_⟩
                have sp := same_new (o := .lst []) np
                refine ⟨D, p, _, rfl, rfl, SqL.of (sp _ _ at_D), SqL.of upd_same, ?_⟩
                have := fin _ (((s1.trans s2).trans sG).trans sp)
                rw [f1, e1, e2, Bool.true_and, Bool.true_and, show arePurses (.tuple es) = es.all isPurse from rfl, ← badV_empty len3] at this
                exact this
            | non => exact iteF (no3 rfl)
            | bl b => exact iteF (no3 rfl)
            | int i => exact iteF (no3 rfl)
            | str x => exact iteF (no3 rfl)
            | lst a b => exact iteF (no3 rfl)
            | dic a b => exact iteF (no3 rfl)
      · have c : (!decide (V.int (xs.length : Nat) = V.int 3)) = true := by
          rw [len]
          have : ¬ V.int (ds.length : Nat) = V.int 3 := fun z => e (by injection z; omega)
          rw [decide_eq_false this]
          rfl
        rw [c]
        exact iteT (iteT (out (decide_eq_false fun z => e (by omega))))
    | non => exact iteT (iteT (out rfl))
    | bl b => exact iteT (iteT (out rfl))
    | int i => exact iteT (iteT (out rfl))
    | str x => exact iteT (iteT (out rfl))
    | lst a b => exact iteT (iteT (out rfl))
    | dic a b => exact iteT (iteT (out rfl))
end
end K29

namespace K29
open PySem PySem.Spec PyProof.Rows L2 Vd Evl
def sameStr : PyData → PyData → Bool
  | .str x, .str y => decide (x = y)
  | _, _ => false
def leInt : PyData → PyData → Bool
  | .int i, .int j => decide (i ≤ j)
  | _, _ => false
def isBelt : PyData → Bool
  | .tuple [a, b, c, e] => isName a && (isName b && (!sameStr a b && (isAbove 1 c && (isAbove 0 e && leInt e c))))
  | _ => false
theorem belt_no {d : PyData} (h : isTup 4 d = false) : isBelt d = false := by
  cases d with
  | tuple ds =>
    match ds, h with
    | [], _ => rfl
    | [_], _ => rfl
    | [_, _], _ => rfl
    | [_, _, _], _ => rfl
    | [a, b, c, e], h => cases h
    | _ :: _ :: _ :: _ :: _ :: _, _ => rfl
  | _ => rfl
theorem name_str {d : PyData} (h : isName d = true) : ∃ x, d = .str x := by
  cases d with
  | str x => exact ⟨x, rfl⟩
  | _ => cases h
theorem above_int {n : Int} {d : PyData} (h : isAbove n d = true) : ∃ i, d = .int i := by
  cases d with
  | int i => exact ⟨i, rfl⟩
  | _ => cases h
theorem four_of {K : PySem.W.Frag} {H : Hp} {xs : List V} {ds : List PyData} (h : DatAll K H xs ds) (e : ds.length = 4) : ∃ x y z u d1 d2 d3 d4, xs = [x, y, z, u] ∧ ds = [d1, d2, d3, d4] ∧ Dat K H x d1 ∧ Dat K H y d2 ∧ Dat K H z d3 ∧ Dat K H u d4 := by
  match ds, e with
  | [d1, d2, d3, d4], _ =>
    cases h with
    | cons a r =>
      cases r with
      | cons b r =>
        cases r with
        | cons c r =>
          cases r with
          | cons d r =>
            cases r
            exact ⟨_, _, _, _, _, _, _, _, rfl, rfl, a, b, c, d⟩
theorem str_dec (x y : Str) : decide (V.str x = V.str y) = decide (x = y) := by
  by_cases h : x = y
  · rw [h, decide_eq_true rfl, decide_eq_true rfl]
  · rw [decide_eq_false h]
    exact decide_eq_false fun z => h (by injection z)
section
variable {P : Program} {w : World} {K : PySem.W.Frag} {mg : Str → Option Value} {base : Heap}
abbrev sBelt : Stmt := topS 13
abbrev sLBelt : Stmt := topS 32
theorem scBelt : FnScope ["thing", "start", "end", "room", "first"] ["thing"] (defScope sBelt) := ⟨rfl, rfl, rfl, by decide +kernel, rfl, by decide +kernel, by decide +kernel⟩
theorem scLBelt : FnScope ["thing"] ["thing"] (defScope sLBelt) := ⟨rfl, rfl, rfl, by decide +kernel, rfl, by decide +kernel, by decide +kernel⟩
theorem ok_belt {f fN fT fP fC fI : Addr} {fd fdN fdT fdP fdC fdI : FuncData} (F : At K mg "is_belt" sBelt ["thing"] f fd) (Na : At K mg "is_name" sName ["thing"] fN fdN)
    (To : At K mg "is_tuple_of" sTupOf ["thing", "many"] fT fdT) (Po : At K mg "is_positive" sPos ["thing"] fP fdP) (Co : At K mg "is_count" sCount ["thing"] fC fdC) (Ii : At K mg "is_integer" sInt_ ["thing"] fI fdI) (my : mg "type" = none) (mi : mg "int" = none) (mt : mg "tuple" = none)
    (ml : mg "len" = none) (ma : mg "all" = none) (ms : mg "str" = none) : FnOk P w K mg base CX0 3 f fd ["thing"] (spOn K isBelt) := by
  have GT : FnOk P w K mg base CX0 1 fT fdT ["thing", "many"] (spTupOf K) := ok_tupof To my mt ml
  have GP : FnOk P w K mg base CX0 2 fP fdP ["thing"] (spIs K (isAbove 1)) := ok_pos Po Ii my mi
  have GC : FnOk P w K mg base CX0 2 fC fdC ["thing"] (spIs K (isAbove 0)) := ok_count Co Ii my mi
  have GN : FnOk P w K mg base CX0 1 fN fdN ["thing"] (spName K) := ok_name Na my ms ml ma
  refine F.fn.ok scBelt (fun vs H Q E h => ?_) (fun cdv A outer s H vs Q E hr h => ?_)
  · obtain ⟨v, d, rfl, _⟩ := h
    rfl
  · obtain ⟨v, d, rfl, dat, tx, low, fin⟩ := h
    have nd := scBelt.nd
    have hr1 : Room 1 _ := hr.mono (by decide)
    refine ⟨_, pss_cons (ps_if (pt_not (pt_val (pe_call GT hr1 (by rfl) To.g To.fn.kp To.b .nil pass0 (pa_cons (pv 0) (pa_cons pe_int pa_nil))))) (pss_one (ps_ret pe_bl)) pss_nil)
      (pss_cons (ps_asg (pv 0) (pg_tup rfl (pgs_cons (pg_name (i := 1) nd rfl (Or.inl rfl)) (pgs_cons (pg_name (i := 2) nd rfl (Or.inl rfl)) (pgs_cons (pg_name (i := 3) nd rfl (Or.inl rfl)) (pgs_cons (pg_name (i := 4) nd rfl (Or.inl rfl)) pgs_nil))))))
      (pss_cons (ps_if (PW.pt (pw_or (pt_not (pt_val (pe_call GN hr1 (by rfl) Na.g Na.fn.kp Na.b .nil pass0 (pa_cons (pv 1) pa_nil)))) (pw_or (pt_not (pt_val (pe_call GN hr1 (by rfl) Na.g Na.fn.kp Na.b .nil pass0 (pa_cons (pv 2) pa_nil))))
        (pw_or1 (pt_cmpR op_eq (pv 1) (pv 2) (nomark _)))))) (pss_one (ps_ret pe_bl)) pss_nil)
      (pss_one (ps_ret (pe_and (pe_call GP hr (by rfl) Po.g Po.fn.kp Po.b .nil pass0 (pa_cons (pv 3) pa_nil)) (pe_and (pe_call GC hr (by rfl) Co.g Co.fn.kp Co.b .nil pass0 (pa_cons (pv 4) pa_nil))
        (pe_one (pe_cmpR op_le (pv 4) (pv 3) (nomark _))))))))), ?_⟩
    refine ⟨_, rfl, v, d, 4, rfl, dat, _, rfl, ?_⟩
    rcases tup_cases 4 dat with no | ⟨a, xs, ds, rfl, rfl, sq, all, len, yes⟩
    · rw [show isTup 4 d = false from no]
      have := fin H (Same.refl H)
      rw [belt_no no] at this
      exact iteT this
    · rw [show isTup 4 (.tuple ds) = true from yes]
      obtain ⟨x, y, z, u, d1, d2, d3, d4, rfl, rfl, q1, q2, q3, q4⟩ := four_of all len
      have pr := parts tx low
      have f1 : isBelt (.tuple [d1, d2, d3, d4]) = (isName d1 && (isName d2 && (!sameStr d1 d2 && (isAbove 1 d3 && (isAbove 0 d4 && leInt d4 d3))))) := rfl
      refine iteF ⟨_, rfl, a, _, rfl, sq, rfl, _, _, rfl, _, _, rfl, _, _, rfl, _, _, rfl, rfl, ?_⟩
      refine ⟨_, rfl, x, d1, rfl, q1, txt_line (pr d1 (by simp)).1, fun H1 s1 => ⟨_, rfl, ?_⟩⟩
      cases e1 : isName d1 with
      | false =>
        have := fin H1 s1
        rw [f1, e1, Bool.false_and] at this
        exact iteT (iteT this)
      | true =>
        refine iteF ⟨_, rfl, y, d2, rfl, Dat.up s1 q2, txt_line (pr d2 (by simp)).1, fun H2 s2 => ⟨_, rfl, ?_⟩⟩
        have s12 := s1.trans s2
        cases e2 : isName d2 with
        | false =>
          have := fin H2 s12
          rw [f1, e1, e2, Bool.true_and, Bool.false_and] at this
          exact iteT (iteT this)
        | true =>
          obtain ⟨n1, rfl⟩ := name_str e1
          obtain ⟨n2, rfl⟩ := name_str e2
          cases q1
          cases q2
          refine iteF ⟨_, rfl, _, rfl, rfl, _, rfl, ?_⟩
          rw [str_dec]
          cases e3 : decide (n1 = n2) with
          | true =>
            have := fin H2 s12
            rw [f1, e1, e2, show sameStr (.str n1) (.str n2) = decide (n1 = n2) from rfl, e3] at this
            exact iteT this
          | false =>
            have f2 : isBelt (.tuple [.str n1, .str n2, d3, d4]) = (isAbove 1 d3 && (isAbove 0 d4 && leInt d4 d3)) := by
              rw [f1, e1, e2, show sameStr (.str n1) (.str n2) = decide (n1 = n2) from rfl, e3]
              rfl
            refine iteF ⟨_, rfl, z, d3, rfl, Dat.up s12 q3, fun H3 s3 => ⟨_, rfl, ?_⟩⟩
            have s123 := s12.trans s3
            cases e4 : isAbove 1 d3 with
            | false =>
              have := fin H3 s123
              rw [f2, e4, Bool.false_and] at this
              exact iteF this
            | true =>
              refine iteT ⟨_, rfl, u, d4, rfl, Dat.up s123 q4, fun H4 s4 => ⟨_, rfl, ?_⟩⟩
              cases e5 : isAbove 0 d4 with
              | false =>
                have := fin H4 (s123.trans s4)
                rw [f2, e4, e5, Bool.true_and, Bool.false_and] at this
                exact iteF this
              | true =>
                obtain ⟨i3, rfl⟩ := above_int e4
                obtain ⟨i4, rfl⟩ := above_int e5
                cases q3
                cases q4
                refine iteT ⟨_, rfl, _, rfl, _, _, rfl, rfl, ?_⟩
                have := fin H4 (s123.trans s4)
                rw [f2, e4, e5, Bool.true_and, Bool.true_and] at this
                exact this
theorem ok_lbelt {f fN fA fI : Addr} {fd fdN fdA fdI : FuncData} (F : At K mg "_law_is_belt" sLBelt ["thing"] f fd) (Na : At K mg "_law_is_name" sLName ["thing"] fN fdN) (Ab : At K mg "_law_is_above" sLAbove ["thing", "least"] fA fdA)
    (Ii : At K mg "_law_is_int" sLInt ["thing"] fI fdI) (mn : mg "isinstance" = none) (mi : mg "int" = none) (mb : mg "bool" = none) (mt : mg "tuple" = none) (ml : mg "len" = none) (ms : mg "str" = none) (ki : KT K "int" wideInt) (kb : KT K "bool" isBool) (kt : KT K "tuple" anyTup) (ks : KT K "str" isStr) :
    FnOk P w K mg base CX0 3 f fd ["thing"] (spOn K isBelt) := by
  have GA : FnOk P w K mg base CX0 2 fA fdA ["thing", "least"] (spAbove K) := ok_labove Ab Ii mn mi mb ki kb
  have GN : FnOk P w K mg base CX0 1 fN fdN ["thing"] (spLName K) := ok_lname Na mn ms ml ks
  have bi : bootBuiltins "isinstance" = some (.builtin "isinstance") := PyProof.Rows.boot_isinstance
  have bt : bootBuiltins "tuple" = some (.type "tuple") := by decide +kernel
  refine F.fn.ok scLBelt (fun vs H Q E h => ?_) (fun cdv A outer s H vs Q E hr h => ?_)
  · obtain ⟨v, d, rfl, _⟩ := h
    rfl
  · obtain ⟨v, d, rfl, dat, tx, low, fin⟩ := h
    have hr1 : Room 1 _ := hr.mono (by decide)
    refine ⟨_, pss_cons (ps_if (PW.pt (pw_or (pt_not (pt_val (pe_callB call_isi (by rfl) mn bi (pa_cons (pv 0) (pa_cons (pe_bltn (by rfl) mt bt (v := .ty "tuple") rfl) pa_nil)))))
        (pw_or (pt_cmpR op_ne (pe_callB call_len_seq (by rfl) ml PySem.boot_len (pa_cons (pv 0) pa_nil)) pe_int (nomark _))
        (pw_or (pt_not (pt_val (pe_call GN hr1 (by rfl) Na.g Na.fn.kp Na.b .nil pass0 (pa_cons (pe_ix ix_tup (pv 0) pe_int (fun _ _ => rfl)) pa_nil))))
        (pw_or1 (pt_not (pt_val (pe_call GN hr1 (by rfl) Na.g Na.fn.kp Na.b .nil pass0 (pa_cons (pe_ix ix_tup (pv 0) pe_int (fun _ _ => rfl)) pa_nil))))))))) (pss_one (ps_ret pe_bl)) pss_nil)
      (pss_one (ps_ret (pe_and (pe_cmpR op_ne (pe_ix ix_tup (pv 0) pe_int (fun _ _ => rfl)) (pe_ix ix_tup (pv 0) pe_int (fun _ _ => rfl)) (nomark _))
        (pe_and (pe_call GA hr (by rfl) Ab.g Ab.fn.kp Ab.b .nil pass0 (pa_cons (pe_ix ix_tup (pv 0) pe_int (fun _ _ => rfl)) (pa_cons pe_int pa_nil)))
        (pe_and (pe_call GA hr (by rfl) Ab.g Ab.fn.kp Ab.b .nil pass0 (pa_cons (pe_ix ix_tup (pv 0) pe_int (fun _ _ => rfl)) (pa_cons pe_int pa_nil)))
        (pe_one (pe_cmpR op_le (pe_ix ix_tup (pv 0) pe_int (fun _ _ => rfl)) (pe_ix ix_tup (pv 0) pe_int (fun _ _ => rfl)) (nomark _)))))))), ?_⟩
    obtain ⟨t, tyx, k1⟩ := kt.of dat
    refine ⟨_, rfl, v, .ty "tuple", t, .type "tuple", _, rfl, .ty "tuple", tyx, k1, _, rfl, ?_⟩
    have out : isTup 4 d = false → Q (.bl false) H := fun no => by
      have := fin H (Same.refl H)
      rwa [belt_no no] at this
    cases dat with
    | @tup a xs ds sq all =>
      refine iteF ⟨_, rfl, a, xs, rfl, .inr sq, rfl, _, rfl, ?_⟩
      have len := dats_len all
      by_cases e : ds.length = 4
      · have c : (!decide (V.int (xs.length : Nat) = V.int 4)) = false := by
          rw [len, e]
          decide
        rw [c]
        obtain ⟨x, y, z, u, d1, d2, d3, d4, rfl, rfl, q1, q2, q3, q4⟩ := four_of all e
        have pr := parts tx low
        have f1 : isBelt (.tuple [d1, d2, d3, d4]) = (isName d1 && (isName d2 && (!sameStr d1 d2 && (isAbove 1 d3 && (isAbove 0 d4 && leInt d4 d3))))) := rfl
        refine iteF ⟨_, rfl, a, _, 0, x, rfl, rfl, sq, rfl, x, d1, rfl, q1, txt_ok (pr d1 (by simp)).1, fun H1 s1 => ⟨_, rfl, ?_⟩⟩
        cases e1 : isName d1 with
        | false =>
          have := fin H1 s1
          rw [f1, e1, Bool.false_and] at this
          exact iteT (iteT this)
        | true =>
          refine iteF ⟨_, rfl, a, _, 1, y, rfl, rfl, sqt_up s1 sq, rfl, y, d2, rfl, Dat.up s1 q2, txt_ok (pr d2 (by simp)).1, fun H2 s2 => ⟨_, rfl, ?_⟩⟩
          have s12 := s1.trans s2
          cases e2 : isName d2 with
          | false =>
            have := fin H2 s12
            rw [f1, e1, e2, Bool.true_and, Bool.false_and] at this
            exact iteT this
          | true =>
            obtain ⟨n1, rfl⟩ := name_str e1
            obtain ⟨n2, rfl⟩ := name_str e2
            cases q1
            cases q2
            refine iteF ⟨_, rfl, a, _, 0, _, rfl, rfl, sqt_up s12 sq, rfl, _, rfl, a, _, 1, _, rfl, rfl, sqt_up s12 sq, rfl, rfl, _, rfl, ?_⟩
            rw [str_dec]
            cases e3 : decide (n1 = n2) with
            | true =>
              have := fin H2 s12
              rw [f1, e1, e2, show sameStr (.str n1) (.str n2) = decide (n1 = n2) from rfl, e3] at this
              exact iteF this
            | false =>
              have f2 : isBelt (.tuple [.str n1, .str n2, d3, d4]) = (isAbove 1 d3 && (isAbove 0 d4 && leInt d4 d3)) := by
                rw [f1, e1, e2, show sameStr (.str n1) (.str n2) = decide (n1 = n2) from rfl, e3]
                rfl
              refine iteT ⟨_, rfl, a, _, 2, z, rfl, rfl, sqt_up s12 sq, rfl, z, d3, 1, rfl, Dat.up s12 q3, fun H3 s3 => ⟨_, rfl, ?_⟩⟩
              have s123 := s12.trans s3
              cases e4 : isAbove 1 d3 with
              | false =>
                have := fin H3 s123
                rw [f2, e4, Bool.false_and] at this
                exact iteF this
              | true =>
                refine iteT ⟨_, rfl, a, _, 3, u, rfl, rfl, sqt_up s123 sq, rfl, u, d4, 0, rfl, Dat.up s123 q4, fun H4 s4 => ⟨_, rfl, ?_⟩⟩
                have s1234 := s123.trans s4
                cases e5 : isAbove 0 d4 with
                | false =>
                  have := fin H4 s1234
                  rw [f2, e4, e5, Bool.true_and, Bool.false_and] at this
                  exact iteF this
                | true =>
                  obtain ⟨i3, rfl⟩ := above_int e4
                  obtain ⟨i4, rfl⟩ := above_int e5
                  cases q3
                  cases q4
                  refine iteT ⟨_, rfl, a, _, 3, _, rfl, rfl, sqt_up s1234 sq, rfl, _, rfl, a, _, 2, _, rfl, rfl, sqt_up s1234 sq, rfl, _, _, rfl, rfl, ?_⟩
                  have := fin H4 s1234
                  rw [f2, e4, e5, Bool.true_and, Bool.true_and] at this
                  exact this
      · have c : (!decide (V.int (xs.length : Nat) = V.int 4)) = true := by
          rw [len]
          have : ¬ V.int (ds.length : Nat) = V.int 4 := fun z => e (by injection z; omega)
          rw [decide_eq_false this]
          rfl
        rw [c]
        exact iteT (iteT (out (decide_eq_false fun z => e (by omega))))
    | non => exact iteT (iteT (out rfl))
    | bl b => exact iteT (iteT (out rfl))
    | int i => exact iteT (iteT (out rfl))
    | str x => exact iteT (iteT (out rfl))
    | lst a b => exact iteT (iteT (out rfl))
    | dic a b => exact iteT (iteT (out rfl))
end
end K29

namespace K29
open PySem PySem.Spec PyProof.Rows L2 Vd Evl
abbrev sRed : Stmt := topS 2
theorem scRed : FnScope ["n", "d", "common"] ["n", "d"] (defScope sRed) := ⟨rfl, rfl, rfl, by decide +kernel, rfl, by decide +kernel, by decide +kernel⟩
/-! ### fractions -/
/-- the greatest common divisor, as an int -/
def gz (n d : Int) : Int := ((Nat.gcd n.natAbs d.natAbs : Nat) : Int)
/-- n / d as the fraction that stands for it -/
def red (n d : Int) : Int × Int := if 0 < d then (n / gz n d, d / gz n d) else ((-n) / gz n d, (-d) / gz n d)
theorem gz_pos {n d : Int} (h : d ≠ 0) : 0 < gz n d := by
  have : 0 < Nat.gcd n.natAbs d.natAbs := Nat.gcd_pos_of_pos_right _ (by omega)
  unfold gz
  omega
theorem gz_low {n d : Int} {k : Nat} (h : d ≠ 0) (hd : d.natAbs < 2 ^ k) : (gz n d).natAbs < 2 ^ k := by
  have : Nat.gcd n.natAbs d.natAbs ≤ d.natAbs := Nat.gcd_le_right _ (by omega)
  unfold gz
  omega
theorem gz_neg (n d : Int) : gz (-n) (-d) = gz n d := by
  unfold gz
  rw [Int.natAbs_neg, Int.natAbs_neg]
theorem fdiv_pos {n g : Int} (h : 0 < g) : n.fdiv g = n / g := Int.fdiv_eq_ediv_of_nonneg n (by omega)
theorem fdiv_neg {n g : Int} (h : g ∣ n) (hg : g ≠ 0) : n.fdiv (-g) = (-n) / g := by
  obtain ⟨k, rfl⟩ := h
  have e1 : g * k = (-g) * (-k) := by rw [Int.neg_mul_neg]
  have e2 : (g * k).fdiv (-g) = -k := by
    rw [e1, Int.mul_fdiv_cancel_left _ (by omega)]
  rw [e2, ← Int.mul_neg, Int.mul_ediv_cancel_left _ hg]
theorem gz_dvd1 (n d : Int) : gz n d ∣ n := by
  unfold gz
  exact Int.ofNat_dvd_left.mpr (Nat.gcd_dvd_left _ _)
theorem gz_dvd2 (n d : Int) : gz n d ∣ d := by
  unfold gz
  exact Int.ofNat_dvd_left.mpr (Nat.gcd_dvd_right _ _)

theorem gz_turn {x y : Int} (hx : 0 ≤ x) (hy : 0 < y) : gz y (x % y) = gz x y := by
  obtain ⟨m, rfl⟩ := Int.eq_ofNat_of_zero_le hx
  obtain ⟨n, rfl⟩ := Int.eq_ofNat_of_zero_le (Int.le_of_lt hy)
  unfold gz
  have e : ((m : Int) % (n : Int)).natAbs = m % n := by
    rw [← Int.natCast_emod]
    rfl
  rw [e]
  show ((Nat.gcd n (m % n) : Nat) : Int) = ((Nat.gcd m n : Nat) : Int)
  rw [Nat.gcd_comm n (m % n), ← Nat.gcd_rec, Nat.gcd_comm]
theorem gz_zero {x : Int} (hx : 0 ≤ x) : gz x 0 = x := by
  unfold gz
  rw [show (0 : Int).natAbs = 0 from rfl, Nat.gcd_zero_right]
  omega
theorem gz_abs (a b : Int) : gz (if a < 0 then -a else a) (if b < 0 then -b else b) = gz a b := by
  unfold gz
  have e : ∀ c : Int, (if c < 0 then -c else c).natAbs = c.natAbs := fun c => by split <;> omega
  rw [e, e]
theorem abs_up (a : Int) : 0 ≤ (if a < 0 then -a else a) := by split <;> omega
def secondI (σ : L2.St) : Nat := match σ[1]? with
  | some (some (V.int y)) => y.toNat
  | _ => 0
section
variable {X : Cx}
/-- // by a divisor of either sign, below 2 ^ 9000 -/
theorem op_fdivL : OpR X (binaryOp .FloorDiv) (rI (fun _ j => j ≠ 0 ∧ j.natAbs.log2 < 9000) fun i j => .int (i.fdiv j)) := opI fun _ _ _ _ _ _ _ h q => floordiv_int h.1 q (.inl (PyProof.noPylong_of_log2 h.2))
end
theorem log_low {j : Int} (h : j.natAbs < 2 ^ 400) : j.natAbs.log2 < 9000 := Nat.lt_of_lt_of_le (PySem.Flt.log2_lt_of (by decide) h) (by decide)

section
variable {P : Program} {w : World} {K : PySem.W.Frag} {mg : Str → Option Value} {base : Heap}
/-- a fraction, made anew -/
def Fresh2 (H : Hp) (Q : VK) (r : Int × Int) : Prop := ∀ H' p, Same H H' → H p = none → H' p = some (.tup [.int r.1, .int r.2]) → Q (.ref p) H'
def spRed : Sp := fun vs H Q _ => ∃ n d : Int, vs = [.int n, .int d] ∧ d ≠ 0 ∧ n.natAbs < 2 ^ 400 ∧ d.natAbs < 2 ^ 400 ∧ Fresh2 H Q (red n d)
theorem ok_red {f : Addr} {fd : FuncData} (F : At K mg "reduced" sRed ["n", "d"] f fd) (mG : mg "gcd" = some (.builtin "math.gcd")) : FnOk P w K mg base CX0 1 f fd ["n", "d"] spRed := by
  refine F.fn.ok scRed (fun vs H Q E h => ?_) (fun cdv A outer s H vs Q E hr h => ?_)
  · obtain ⟨n, d, rfl, _⟩ := h
    rfl
  · obtain ⟨n, d, rfl, d0, ln, ld, q⟩ := h
    have nd := scRed.nd
    refine ⟨_, pss_cons (ps_set (i := 2) nd rfl (Or.inl rfl) (pe_callBfun cr_gcd (by rfl) mG (pa_cons (pv 0) (pa_cons (pv 1) pa_nil))))
      (pss_cons (ps_if (pt_cmpR op_lt (pv 1) pe_int (nomark _)) (pss_one (ps_set (i := 2) nd rfl (Or.inl rfl) (pe_un un_neg (pv 2)))) pss_nil)
      (pss_one (ps_ret (pe_tup (pa_cons (pe_op op_fdivL (pv 0) (pv 2)) (pa_cons (pe_op op_fdivL (pv 1) (pv 2)) pa_nil)))))), ?_⟩
    have gp := gz_pos (n := n) d0
    have gl := gz_low (n := n) d0 ld
    refine ⟨_, rfl, _, rfl, n, d, rfl, ?_⟩
    refine ⟨_, rfl, _, _, rfl, rfl, _, rfl, ?_⟩
    refine ite2 (fun neg => ?_) (fun up => ?_)
    · have neg' : d < 0 := of_decide_eq_true neg
      refine ⟨_, rfl, gz n d, rfl, ?_⟩
      refine ⟨_, rfl, _, rfl, n, -gz n d, rfl, rfl, ⟨by omega, by rw [Int.natAbs_neg]; exact log_low gl⟩, _, rfl, _, rfl, d, -gz n d, rfl, rfl, ⟨by omega, by rw [Int.natAbs_neg]; exact log_low gl⟩, len_line (by show 2 ≤ 100000; decide), fun p np => ?_⟩
      refine q _ p (same_new np) np ?_
      rw [upd_same]
      show some (HO.tup [.int (n.fdiv (-gz n d)), .int (d.fdiv (-gz n d))]) = _
      rw [fdiv_neg (gz_dvd1 n d) (by omega), fdiv_neg (gz_dvd2 n d) (by omega)]
      have e : red n d = ((-n) / gz n d, (-d) / gz n d) := if_neg (by omega)
      rw [e]
    · have up' : ¬ d < 0 := fun z => up (decide_eq_true z)
      refine ⟨_, rfl, _, rfl, n, gz n d, rfl, rfl, ⟨by omega, log_low gl⟩, _, rfl, _, rfl, d, gz n d, rfl, rfl, ⟨by omega, log_low gl⟩, len_line (by show 2 ≤ 100000; decide), fun p np => ?_⟩
      refine q _ p (same_new np) np ?_
      rw [upd_same]
      show some (HO.tup [.int (n.fdiv (gz n d)), .int (d.fdiv (gz n d))]) = _
      rw [fdiv_pos gp, fdiv_pos gp]
      have e : red n d = (n / gz n d, d / gz n d) := if_pos (by omega)
      rw [e]

/-- two fractions that stand in tuples -/
abbrev sFrac : Stmt := topS 9
abbrev sLFrac : Stmt := topS 35
theorem scFrac : FnScope ["thing", "n", "d"] ["thing"] (defScope sFrac) := ⟨rfl, rfl, rfl, by decide +kernel, rfl, by decide +kernel, by decide +kernel⟩
theorem scLFrac : FnScope ["thing", "one", "other"] ["thing"] (defScope sLFrac) := ⟨rfl, rfl, rfl, by decide +kernel, rfl, by decide +kernel, by decide +kernel⟩
def unit : PyData → PyData → Bool
  | .int n, .int d => decide (gz n d = 1)
  | _, _ => false
def isFrac : PyData → Bool
  | .tuple [a, b] => isInt a && (isAbove 1 b && unit a b)
  | _ => false
def spFr (K : PySem.W.Frag) : Sp := fun vs H Q _ => ∃ v d, vs = [v] ∧ Dat K H v d ∧ (∀ i j, d = .tuple [.int i, .int j] → i.natAbs < 2 ^ 400 ∧ j.natAbs < 2 ^ 400) ∧ ∀ H', Same H H' → Q (.bl (isFrac d)) H'
theorem frac_no {d : PyData} (h : isTup 2 d = false) : isFrac d = false := by
  cases d with
  | tuple ds =>
    match ds, h with
    | [], _ => rfl
    | [_], _ => rfl
    | [a, b], h => cases h
    | _ :: _ :: _ :: _, _ => rfl
  | _ => rfl
theorem is_int {d : PyData} (h : isInt d = true) : ∃ i, d = .int i := by
  cases d with
  | int i => exact ⟨i, rfl⟩
  | _ => cases h
def third (σ : L2.St) : Nat := match σ[2]? with
  | some (some (V.int y)) => y.toNat
  | _ => 0
theorem red_unit {n d : Int} (h : 1 ≤ d) : ((red n d).1 == n && (red n d).2 == d) = decide (gz n d = 1) := by
  have g0 : 0 < gz n d := gz_pos (n := n) (d := d) (by omega)
  have e : red n d = (n / gz n d, d / gz n d) := if_pos (by omega)
  rw [e]
  by_cases u : gz n d = 1
  · rw [decide_eq_true u, u]
    simp
  · rw [decide_eq_false u]
    have lt : d / gz n d < d := Int.ediv_lt_self_of_pos_of_ne_one (by omega) u
    have ne : ((d / gz n d) == d) = false := by
      simp
      omega
    show ((n / gz n d == n) && (d / gz n d == d)) = false
    rw [ne, Bool.and_false]
theorem ok_frac {f fR fT fP fI : Addr} {fd fdR fdT fdP fdI : FuncData} (F : At K mg "is_fraction" sFrac ["thing"] f fd) (Re : At K mg "reduced" sRed ["n", "d"] fR fdR) (To : At K mg "is_tuple_of" sTupOf ["thing", "many"] fT fdT) (Po : At K mg "is_positive" sPos ["thing"] fP fdP)
    (Ii : At K mg "is_integer" sInt_ ["thing"] fI fdI) (my : mg "type" = none) (mi : mg "int" = none) (mt : mg "tuple" = none) (ml : mg "len" = none) (mG : mg "gcd" = some (.builtin "math.gcd")) : FnOk P w K mg base CX0 3 f fd ["thing"] (spFr K) := by
  have GT : FnOk P w K mg base CX0 1 fT fdT ["thing", "many"] (spTupOf K) := ok_tupof To my mt ml
  have GI : FnOk P w K mg base CX0 1 fI fdI ["thing"] (spIs K isInt) := ok_isint Ii my mi
  have GP : FnOk P w K mg base CX0 2 fP fdP ["thing"] (spIs K (isAbove 1)) := ok_pos Po Ii my mi
  have GR : FnOk P w K mg base CX0 1 fR fdR ["n", "d"] spRed := ok_red Re mG
  refine F.fn.ok scFrac (fun vs H Q E h => ?_) (fun cdv A outer s H vs Q E hr h => ?_)
  · obtain ⟨v, d, rfl, _⟩ := h
    rfl
  · obtain ⟨v, d, rfl, dat, low, fin⟩ := h
    have nd := scFrac.nd
    have hr1 : Room 1 _ := hr.mono (by decide)
    refine ⟨_, pss_cons (ps_if (pt_not (pt_val (pe_call GT hr1 (by rfl) To.g To.fn.kp To.b .nil pass0 (pa_cons (pv 0) (pa_cons pe_int pa_nil))))) (pss_one (ps_ret pe_bl)) pss_nil)
      (pss_cons (ps_asg (pv 0) (pg_tup rfl (pgs_cons (pg_name (i := 1) nd rfl (Or.inl rfl)) (pgs_cons (pg_name (i := 2) nd rfl (Or.inl rfl)) pgs_nil))))
      (pss_one (ps_ret (pe_and (pe_call GI hr1 (by rfl) Ii.g Ii.fn.kp Ii.b .nil pass0 (pa_cons (pv 1) pa_nil)) (pe_and (pe_call GP hr (by rfl) Po.g Po.fn.kp Po.b .nil pass0 (pa_cons (pv 2) pa_nil))
        (pe_one (pe_cmpR (op_eqG hr.units) (pe_call GR hr1 (by rfl) Re.g Re.fn.kp Re.b .nil pass0 (pa_cons (pv 1) (pa_cons (pv 2) pa_nil))) (pv 0) (nomark _)))))))), ?_⟩
    refine ⟨_, rfl, v, d, 2, rfl, dat, _, rfl, ?_⟩
    rcases tup_cases 2 dat with no | ⟨a, xs, ds, rfl, rfl, sq, all, len, yes⟩
    · rw [show isTup 2 d = false from no]
      have := fin H (Same.refl H)
      rw [frac_no no] at this
      exact iteT this
    · rw [show isTup 2 (.tuple ds) = true from yes]
      obtain ⟨x, y, d1, d2, rfl, rfl, q1, q2⟩ := two_of all len
      have f1 : isFrac (.tuple [d1, d2]) = (isInt d1 && (isAbove 1 d2 && unit d1 d2)) := rfl
      refine iteF ⟨_, rfl, a, _, rfl, sq, rfl, _, _, rfl, _, _, rfl, rfl, ?_⟩
      refine ⟨_, rfl, x, d1, rfl, q1, fun H1 s1 => ⟨_, rfl, ?_⟩⟩
      cases e1 : isInt d1 with
      | false =>
        have := fin H1 s1
        rw [f1, e1, Bool.false_and] at this
        exact iteF this
      | true =>
        refine iteT ⟨_, rfl, y, d2, rfl, Dat.up s1 q2, fun H2 s2 => ⟨_, rfl, ?_⟩⟩
        have s12 := s1.trans s2
        cases e2 : isAbove 1 d2 with
        | false =>
          have := fin H2 s12
          rw [f1, e1, e2, Bool.true_and, Bool.false_and] at this
          exact iteF this
        | true =>
          obtain ⟨i, rfl⟩ := is_int e1
          obtain ⟨j, rfl⟩ := above_int e2
          obtain ⟨li, lj⟩ := low i j rfl
          have j1 : 1 ≤ j := of_decide_eq_true e2
          cases q1
          cases q2
          refine iteT ⟨_, rfl, _, rfl, i, j, rfl, by omega, li, lj, fun H3 p s3 np at_p => ⟨_, rfl, .tuple [.int (red i j).1, .int (red i j).2], .tuple [.int i, .int j], .tup (SqT.of at_p) (.cons (.int _) (.cons (.int _) .nil)),
            .tup (sqt_up (s12.trans s3) sq) (.cons (.int _) (.cons (.int _) .nil)), ?_, ?_, ?_⟩⟩
          · simp [SeqAt.shaped, PyData.canLay0, PyData.canLayAll0, PyData.depth, PyData.depthAll]
          · simp [SeqAt.shaped, PyData.canLay0, PyData.canLayAll0, PyData.depth, PyData.depthAll]
          · have e3 : PyData.eqv (.tuple [.int (red i j).1, .int (red i j).2]) (.tuple [.int i, .int j]) = unit (.int i) (.int j) := by
              simp only [PyData.eqv, PyData.eqvAll, Bool.and_true]
              exact red_unit j1
            rw [e3]
            have := fin H3 (s12.trans s3)
            rw [f1, e1, e2, Bool.true_and, Bool.true_and] at this
            exact this
theorem ok_lfrac {f fA fI : Addr} {fd fdA fdI : FuncData} (F : At K mg "_law_is_fraction" sLFrac ["thing"] f fd) (Ab : At K mg "_law_is_above" sLAbove ["thing", "least"] fA fdA)
    (Ii : At K mg "_law_is_int" sLInt ["thing"] fI fdI) (mn : mg "isinstance" = none) (mi : mg "int" = none) (mb : mg "bool" = none) (mt : mg "tuple" = none) (ml : mg "len" = none) (ma : mg "abs" = none) (ki : KT K "int" wideInt) (kb : KT K "bool" isBool) (kt : KT K "tuple" anyTup) :
    FnOk P w K mg base CX0 3 f fd ["thing"] (spIs K isFrac) := by
  have GA : FnOk P w K mg base CX0 2 fA fdA ["thing", "least"] (spAbove K) := ok_labove Ab Ii mn mi mb ki kb
  have GI : FnOk P w K mg base CX0 1 fI fdI ["thing"] (spIs K isInt) := ok_lint Ii mn mi mb ki kb
  have bi : bootBuiltins "isinstance" = some (.builtin "isinstance") := PyProof.Rows.boot_isinstance
  have bt : bootBuiltins "tuple" = some (.type "tuple") := by decide +kernel
  refine F.fn.ok scLFrac (fun vs H Q E h => ?_) (fun cdv A outer s H vs Q E hr h => ?_)
  · obtain ⟨v, d, rfl, _⟩ := h
    rfl
  · obtain ⟨v, d, rfl, dat, fin⟩ := h
    have nd := scLFrac.nd
    have hr1 : Room 1 _ := hr.mono (by decide)
    refine ⟨_, pss_cons (ps_if (PW.pt (pw_or (pt_not (pt_val (pe_callB call_isi (by rfl) mn bi (pa_cons (pv 0) (pa_cons (pe_bltn (by rfl) mt bt (v := .ty "tuple") rfl) pa_nil)))))
        (pw_or (pt_cmpR op_ne (pe_callB call_len_seq (by rfl) ml PySem.boot_len (pa_cons (pv 0) pa_nil)) pe_int (nomark _))
        (pw_or (pt_not (pt_val (pe_call GI hr1 (by rfl) Ii.g Ii.fn.kp Ii.b .nil pass0 (pa_cons (pe_ix ix_tup (pv 0) pe_int (fun _ _ => rfl)) pa_nil))))
        (pw_or1 (pt_not (pt_val (pe_call GA hr (by rfl) Ab.g Ab.fn.kp Ab.b .nil pass0 (pa_cons (pe_ix ix_tup (pv 0) pe_int (fun _ _ => rfl)) (pa_cons pe_int pa_nil)))))))))) (pss_one (ps_ret pe_bl)) pss_nil)
      (pss_cons (ps_par (i := 1) (j := 2) (by rfl) nd rfl rfl (by decide) rfl rfl (pa_cons (pe_callB call_abs (by rfl) ma (by decide +kernel) (pa_cons (pe_ix ix_tup (pv 0) pe_int (fun _ _ => rfl)) pa_nil)) (pa_cons (pe_ix ix_tup (pv 0) pe_int (fun _ _ => rfl)) pa_nil)) (by rfl))
      (pss_cons (ps_while PassesOwn.never (pt_cmpR op_ne (pv 2) pe_int (nomark _)) (pss_one (ps_par (i := 1) (j := 2) (by rfl) nd rfl rfl (by decide) rfl rfl (pa_cons (pv 2) (pa_cons (pe_op op_mod (pe_callTy call_int1 (by rfl) mi (by decide +kernel) (pa_cons (pv 1) pa_nil)) (pv 2)) pa_nil)) (by rfl))))
      (pss_one (ps_ret (pe_cmpR op_eq (pv 1) pe_int (nomark _)))))), ?_⟩
    obtain ⟨t, tyx, k1⟩ := kt.of dat
    refine ⟨_, rfl, v, .ty "tuple", t, .type "tuple", _, rfl, .ty "tuple", tyx, k1, _, rfl, ?_⟩
    have out : isTup 2 d = false → Q (.bl false) H := fun no => by
      have := fin H (Same.refl H)
      rwa [frac_no no] at this
    cases dat with
    | @tup a xs ds sq all =>
      refine iteF ⟨_, rfl, a, xs, rfl, .inr sq, rfl, _, rfl, ?_⟩
      have len := dats_len all
      by_cases e : ds.length = 2
      · have c : (!decide (V.int (xs.length : Nat) = V.int 2)) = false := by
          rw [len, e]
          decide
        rw [c]
        obtain ⟨x, y, d1, d2, rfl, rfl, q1, q2⟩ := two_of all e
        have f1 : isFrac (.tuple [d1, d2]) = (isInt d1 && (isAbove 1 d2 && unit d1 d2)) := rfl
        refine iteF ⟨_, rfl, a, _, 0, x, rfl, rfl, sq, rfl, x, d1, rfl, q1, fun H1 s1 => ⟨_, rfl, ?_⟩⟩
        cases e1 : isInt d1 with
        | false =>
          have := fin H1 s1
          rw [f1, e1, Bool.false_and] at this
          exact iteT (iteT this)
        | true =>
          refine iteF ⟨_, rfl, a, _, 1, y, rfl, rfl, sqt_up s1 sq, rfl, y, d2, 1, rfl, Dat.up s1 q2, fun H2 s2 => ⟨_, rfl, ?_⟩⟩
          have s12 := s1.trans s2
          cases e2 : isAbove 1 d2 with
          | false =>
            have := fin H2 s12
            rw [f1, e1, e2, Bool.true_and, Bool.false_and] at this
            exact iteT this
          | true =>
            obtain ⟨i, rfl⟩ := is_int e1
            obtain ⟨j, rfl⟩ := above_int e2
            have j1 : 1 ≤ j := of_decide_eq_true e2
            cases q1
            cases q2
            have done : Q (.bl (decide (gz i j = 1))) H2 := by
              have := fin H2 s12
              rw [f1, e1, e2, Bool.true_and, Bool.true_and] at this
              exact this
            refine iteF ⟨_, rfl, a, _, 0, _, rfl, rfl, sqt_up s12 sq, rfl, i, rfl, _, rfl, a, _, 1, _, rfl, rfl, sqt_up s12 sq, rfl, _, _, rfl, ?_⟩
            have gabs : gz (if i < 0 then -i else i) j = gz i j := by
              have := gz_abs i j
              rwa [if_neg (show ¬ j < 0 by omega)] at this
            refine while_by (fun σ G => ∃ x y : Int, σ = [some (.ref a), some (.int x), some (.int y)] ∧ 0 ≤ x ∧ 0 ≤ y ∧ gz x y = gz i j ∧ G = H2) (fun σ _ => third σ) ⟨_, _, rfl, abs_up i, by omega, gabs, rfl⟩ ?_ ?_
            · rintro _ _ ⟨x, y, rfl, hx, hy, e, rfl⟩
              refine ⟨_, rfl, rfl, _, rfl, ?_⟩
              by_cases z : y = 0
              · subst z
                rw [gz_zero hx] at e
                have t : (!decide (V.int 0 = V.int 0)) = false := by simp
                refine ite2 (fun no => by rw [t] at no; cases no) (fun _ => ⟨_, rfl, rfl, ?_⟩)
                have e4 : decide (V.int x = V.int 1) = decide (gz i j = 1) := by
                  rw [← e]
                  by_cases h : x = 1
                  · rw [h]
                    rfl
                  · rw [decide_eq_false h]
                    exact decide_eq_false fun z => h (by injection z)
                rw [e4]
                exact done
              · have t : (!decide (V.int y = V.int 0)) = true := by simp [z]
                have hy' : 0 < y := by omega
                refine ite2 (fun _ => ?_) (fun no => absurd t no)
                refine ⟨_, rfl, _, rfl, .inl ⟨x, rfl, _, rfl, x, y, rfl, rfl, hy', _, _, rfl, ⟨y, x % y, rfl, hy, Int.emod_nonneg _ z, by rw [gz_turn hx hy', e], rfl⟩, ?_⟩⟩
                show (x % y).toNat < y.toNat
                have := Int.emod_lt_of_pos x hy'
                have := Int.emod_nonneg x z
                omega
            · rintro σ G Q1 Q2 imp ⟨v, e1, s1, k, e2, q⟩
              exact ⟨v, e1, s1, k, e2, imp _ _ q⟩
      · have c : (!decide (V.int (xs.length : Nat) = V.int 2)) = true := by
          rw [len]
          have : ¬ V.int (ds.length : Nat) = V.int 2 := fun z => e (by injection z; omega)
          rw [decide_eq_false this]
          rfl
        rw [c]
        exact iteT (iteT (out (decide_eq_false fun z => e (by omega))))
    | non => exact iteT (iteT (out rfl))
    | bl b => exact iteT (iteT (out rfl))
    | int i => exact iteT (iteT (out rfl))
    | str x => exact iteT (iteT (out rfl))
    | lst a b => exact iteT (iteT (out rfl))
    | dic a b => exact iteT (iteT (out rfl))
end
end K29

namespace Vd
open PySem PySem.Spec PyProof.Rows L2
theorem same_put {G : Hp} {p : Addr} {o : HO} (n : G p = none) : Same G (upd G p o) := fun b x e => by
  rw [upd_ne (ne_of_none e n)]
  exact e
/-! ### a tuple times 0, 1 -/
theorem tuple_mul1 (l : Addr) (items : Array Value) (n : Nat) (dd : Option Addr) (sl : Array (Option Value)) (u : Tok) :
    Meets (Builtin.«tuple.__mul__» ⟨[.ref l, .int 1 u], []⟩) (fun _ R s => s.heap.get? l = some { cls := .type "tuple", dict := dd, data := .seq items n, slots := sl } ∧ R (.ok (.ret (Value.ref l))) s) :=
  .of_wp fun prog w A R s h => by
    obtain ⟨hp, g, d, tk, os⟩ := s
    obtain ⟨hl, h⟩ := h
    have f1 := AutoSeq1.idx_int
    have c1 : (items.isEmpty || (1 : Int) == 1) = true := by simp
    wp_walk using wpAny_loadPart' hl
    repeat (first
      | (refine wpAny_ite_true (by simp) ?_; wp_walk using wpAny_loadPart' hl)
      | (refine wpAny_ite_false (by decide) ?_; wp_walk using wpAny_loadPart' hl))
    exact ⟨_, rfl, h⟩
theorem tuple_mul0 (l : Addr) (items : Array Value) (n : Nat) (dd : Option Addr) (sl : Array (Option Value)) (u : Tok) (ne : items.isEmpty = false) :
    Meets (Builtin.«tuple.__mul__» ⟨[.ref l, .int 0 u], []⟩) (fun _ R s => s.heap.get? l = some { cls := .type "tuple", dict := dd, data := .seq items n, slots := sl } ∧
      R (.ok (.ret (Value.ref s.heap.objs.size))) { s with heap := s.heap.push { cls := Value.type "tuple", data := Data.seq #[] }, toks := s.toks }) :=
  .of_wp fun prog w A R s h => by
    obtain ⟨hp, g, d, tk, os⟩ := s
    obtain ⟨hl, h⟩ := h
    have f1 := AutoSeq1.idx_int
    wp_walk using wpAny_loadPart' hl
    repeat (first
      | (refine wpAny_ite_false (by rw [ne]; decide) ?_; wp_walk using wpAny_loadPart' hl)
      | (refine wpAny_ite_true (by simp) ?_; wp_walk using wpAny_loadPart' hl)
      | (refine wpAny_ite_false (by decide) ?_; wp_walk using wpAny_loadPart' hl))
    exact ⟨_, rfl, h⟩
section
variable {X : Cx}
/-- t * 0, t * 1, t * 2 .. -/
def rRepS (K : PySem.W.Frag) : R2 := fun x y H Q => ∃ (l : Addr) (k : Nat) (xs : List V), x = .ref l ∧ y = .int k ∧ SqT K H l xs ∧ xs ≠ [] ∧ k ≤ 1000 ∧ xs.length ≤ 1000 ∧
  ((k = 1 ∧ Q (.ref l) H) ∨ (k ≠ 1 ∧ ∀ p, H p = none → Q (.ref p) (upd H p (.tup (List.replicate k xs).flatten))))
theorem op_repS : OpR X (binaryOp .Mult) (rRepS X.K) := by
  intro pins s σ H x y v u Q I rx ry h
  obtain ⟨l, k, xs, rfl, rfl, hT, hne, h1, hz, q⟩ := h
  match k, h1, q, ry with
  | 0, _, q, ry =>
    have q : (0 : Nat) ≠ 1 ∧ _ := q.resolve_left fun z => nomatch z.1
    cases rx
    obtain ⟨t, rfl⟩ := ry
    obtain ⟨its, r, ⟨⟨cls, dd, data, sl⟩, ho, hc, n, hd⟩, hs⟩ := I.tuple hT
    simp only at hc hd
    subst hc hd
    have hi : its.toArray.isEmpty = false := by
      cases its with
      | nil =>
        cases r
        exact absurd rfl hne
      | cons a b => rfl
    refine wpAny_binaryOp_repeat_ref (T := "tuple") (U := "int") (by decide) ⟨_, ho, rfl⟩ (fun s' => typeIs_int s' _ t) noFill_tuple_mul F.fills_int_mul F.slot_int_rmul repeat_tuple F.slot_int_index.lookup
      (call_meets F.slot_int_rmul (typeIs_int s _ t) F.entry_int_rmul (F.args_int_rmul_2 _ _) (int_rmul_tuple _ t l its.toArray n dd sl)
        ⟨ho, rfl, ⟨_, ho, rfl⟩, call_meets F.slot_tuple_mul ⟨_, ho, rfl⟩ F.entry_tuple_mul (F.args_tuple_mul_2 _ _) (tuple_mul0 l its.toArray n dd sl t hi) ⟨ho, ?_⟩⟩)
    refine ⟨.ref s.heap.objs.size, _, I.laid (t' := s.toks) (o := .tup []) (fun b ob q => Heap.get?_push_of_some _ q) (Nat.le_refl _) ?_, rfl, q.2 _ (I.hok.fresh (Nat.le_refl _))⟩
    exact ⟨Nat.zero_le _, _, .nil, IsTup.new _ _⟩
  | 1, _, q, ry =>
    cases rx
    obtain ⟨t, rfl⟩ := ry
    obtain ⟨its, r, ⟨⟨cls, dd, data, sl⟩, ho, hc, n, hd⟩, hs⟩ := I.tuple hT
    simp only at hc hd
    subst hc hd
    refine wpAny_binaryOp_repeat_ref (T := "tuple") (U := "int") (by decide) ⟨_, ho, rfl⟩ (fun s' => typeIs_int s' _ t) noFill_tuple_mul F.fills_int_mul F.slot_int_rmul repeat_tuple F.slot_int_index.lookup
      (call_meets F.slot_int_rmul (typeIs_int s _ t) F.entry_int_rmul (F.args_int_rmul_2 _ _) (int_rmul_tuple _ t l its.toArray n dd sl)
        ⟨ho, rfl, ⟨_, ho, rfl⟩, call_meets F.slot_tuple_mul ⟨_, ho, rfl⟩ F.entry_tuple_mul (F.args_tuple_mul_2 _ _) (tuple_mul1 l its.toArray n dd sl t) ⟨ho, ?_⟩⟩)
    exact ⟨.ref l, H, I, rfl, (q.resolve_right fun z => z.1 rfl).2⟩
  | k + 2, h1, q, ry =>
    refine op_repT pins s σ H _ _ v u Q I rx ry ⟨l, _, xs, rfl, rfl, hT, hne, by omega, by omega, hz, fun p np => ?_⟩
    have e : ((((k + 2 : Nat) : Int)).toNat) = k + 2 := Int.toNat_natCast _
    rw [e]
    exact (q.resolve_left fun z => by omega).2 p np
end
end Vd

namespace Vd
open PySem PySem.Spec PyProof.Rows L2 HT
/-! ### a tuple == () -/
section
open AutoSeq1 MeetsSeq MeetsSeq2 MeetsSeq3 SeqRoads2
variable {prog : Program} {w : World}
theorem eqTup0 (l b : Addr) (xs : Array Value) (n m : Nat) (d1 d2 : Option Addr) (s1 s2 : Array (Option Value)) :
    MeetsIn prog w (Builtin.«tuple.__eq__» ⟨[.ref l, .ref b], []⟩)
      (fun A R s => s.heap.get? l = some { cls := .type "tuple", dict := d1, data := .seq xs n, slots := s1 } ∧ s.heap.get? b = some { cls := .type "tuple", dict := d2, data := .seq #[] m, slots := s2 } ∧ R (.ok (.ret (.bool (xs.size == 0)))) s) := by
  refine MeetsIn.of_wp fun A R s h => ?_
  obtain ⟨hp, g, d, tk, os⟩ := s
  obtain ⟨hl, hb, h⟩ := h
  have both := AutoSeq1.sub_tuple_tuple
  wp_walk using wpAny_loadPart' hl, wpAny_loadPart' hb, wpAny_forIn_list _ (fun rest b s' => rest = [] ∧ b.1 = none ∧ s' = ⟨hp, g, d, tk, os⟩) _
  case turn =>
    rintro ⟨y, x⟩ rest b s' ⟨no, _, _⟩
    cases no
  case fin =>
    rintro ⟨b1, b2⟩ s' ⟨_, none1, rfl⟩
    simp only at none1
    subst none1
    wp_walk
    refine ⟨_, rfl, ?_⟩
    simpa [Builtin.Tuple.tupleCompareSizes] using h
  case h => exact ⟨by simp, rfl, rfl⟩
theorem rcTup0 {A : Around} {s : Shared} {l b : Addr} {xs : Array Value} (hl : s.heap.IsTuple l xs) (hb : s.heap.IsTuple b #[]) (room : A.units < cLine) (E Q : Value → Shared → Prop) (h : Q (.bool (xs.size == 0)) s) :
    wpAny (model prog w) A (richCompare .Eq (.ref l) (.ref b)) Q E s := by
  obtain ⟨⟨_, d1, _, s1⟩, o1, rfl, n, rfl⟩ := id hl
  obtain ⟨⟨_, d2, _, s2⟩, o2, rfl, m, rfl⟩ := id hb
  have t1 : s.TypeIs (.ref l) "tuple" := ⟨_, o1, rfl⟩
  refine wpAny_richCompare_same_room (op := .Eq) t1 ⟨_, o2, rfl⟩ F.slot_tuple_eq ?_ room
  exact call_meetsIn F.slot_tuple_eq t1 F.entry_tuple_eq (F.args_tuple_eq_2 _ _) (eqTup0 l b xs n m d1 d2 s1 s2) ⟨o1, o2, (show Value.bool (xs.size == 0) ≠ Value.notImplemented ∧ Q (.bool (xs.size == 0)) s from ⟨fun no => (nomatch no), h⟩)⟩
end
section
variable {X : Cx}
/-- t == () -/
theorem op_eqNilT (room : X.A.units + 64 < cLine) : OpR X (compareOp .Eq) (fun x y H Q => ∃ a b xs, x = .ref a ∧ y = .ref b ∧ SqT X.K H a xs ∧ SqT X.K H b [] ∧ Q (.bl xs.isEmpty) H) := by
  rintro pins s σ H x y u v Q I rx ry ⟨a, b, xs, rfl, rfl, h1, h2, q⟩
  cases rx
  cases ry
  obtain ⟨its, r1, ⟨o1, e1, c1, n1, d1⟩, _⟩ := I.tuple h1
  obtain ⟨its2, r2, ⟨o2, e2, c2, n2, d2⟩, _⟩ := I.tuple h2
  cases r2
  refine rcTup0 ⟨o1, e1, c1, n1, d1⟩ ⟨o2, e2, c2, n2, d2⟩ (by omega) _ _ ⟨.bl xs.isEmpty, H, I, ?_, q⟩
  have len := r1.length
  cases xs with
  | nil => cases r1; rfl
  | cons z zs =>
    cases r1
    rfl
/-- s * 2 -/
theorem op_strTwice : OpR X (binaryOp .Mult) (fun x y H Q => ∃ z : Str, x = .str z ∧ y = .int 2 ∧ 2 * z.length ≤ 1000000 ∧ ∀ z2 : Str, z2.cps.toList = z.cps.toList ++ z.cps.toList → Q (.str z2) H) := by
  rintro pins s σ H x y u v Q I rx ry ⟨z, rfl, rfl, few, q⟩
  obtain ⟨t1, rfl⟩ := rx
  obtain ⟨t2, rfl⟩ := ry
  have big := sizeLine_eq
  refine PySem.P.mul_str (by decide) (fun _ _ => ?_) (fun _ _ => ?_) ?_
  · have e : ((2 : Int) ^ 63 - 1) / 2 = 4611686018427387903 := by decide
    rw [e]
    omega
  · unfold PySem.Builtin.Str.tooLong
    have e : ((2 : Int).toNat) = 2 := rfl
    rw [e]
    simp
    omega
  · rw [if_neg (by decide)]
    by_cases e : z.length = 0
    · have c : ((2 : Int) == 1 || z.length == 0) = true := by simp [e]
      rw [if_pos c]
      refine ⟨.str z, H, I, ⟨t1, rfl⟩, q z ?_⟩
      have : z.cps.toList = [] := List.eq_nil_of_length_eq_zero (by simpa [Str.length] using e)
      rw [this]
      rfl
    · have c : ((2 : Int) == 1 || z.length == 0) = false := by simp [e]
      rw [if_neg (by rw [c]; decide)]
      refine ⟨?_, ⟨.str _, H, I.kept (t' := s.toks + 1) fun _ _ e => e, ⟨_, rfl⟩, q _ ?_⟩⟩
      · show _ ≤ sizeLine
        simp [Str.length, List.replicate] at few ⊢
        omega
      · show (List.foldl (fun x1 x2 => x1 ++ x2) #[] (List.replicate 2 z.cps)).toList = _
        simp [List.replicate]
end
/-! ### t[::-1] -/
section
variable {prog : Program} {w : World} {A : Around} {E : Value → Shared → Prop} {s : Shared}
theorem rev_pick (items : Array Value) : ((List.range items.size).filterMap fun (k : Nat) => items[(((items.size : Int) - 1) + (k : Int) * (-1)).toNat]?) = items.toList.reverse := by
  have e : ∀ k ∈ List.range items.size, (((items.size : Int) - 1) + (k : Int) * (-1)).toNat = items.size - 1 - k := fun k m => by
    have := List.mem_range.mp m
    omega
  have e2 : ((List.range items.size).filterMap fun (k : Nat) => items[(((items.size : Int) - 1) + (k : Int) * (-1)).toNat]?) = ((List.range items.size).map fun k => items.size - 1 - k).filterMap (items[·]?) := by
    rw [List.filterMap_map]
    generalize List.range items.size = l at e
    induction l with
    | nil => rfl
    | cons a l ih =>
      rw [List.filterMap_cons, List.filterMap_cons, ih fun k m => e k (.tail _ m), e a (.head _)]
      rfl
  rw [e2, PySem.W.krv_range, List.filterMap_reverse, PySem.W.krv_all]
theorem getItem_tuple_rev {t sl : Addr} {items : Array Value} {vl vu vs : Value} {Q : Value → Shared → Prop} (ht : IsTup s.heap t items) (hs : s.heap.IsSliceOf sl vl vu vs) (pl : IsPart vl none) (pu : IsPart vu none) (ps : IsPart vs (some (-1)))
    (h : Q (.ref s.heap.objs.size) { s with heap := s.heap.push { cls := .type "tuple", data := .seq items.toList.reverse.toArray } })
    (hsz : items.size ≤ sizeLine) : wpAny (model prog w) A (getItem (.ref t) (.ref sl)) Q E s := by
  have htake : sizeOk (.seq items.toList.reverse.toArray) := by
    show items.toList.reverse.toArray.size ≤ sizeLine
    simpa using hsz
  obtain ⟨os, hos, hcs, hds⟩ := id hs
  have hTs : s.TypeIs (.ref sl) "slice" := ⟨os, hos, hcs⟩
  unfold getItem
  try with_reducible refine wpAny_holding ?_
  first | refine wpAny_bind (wpAny_pure ?_) | skip
  refine wpAny_bind (wpAny_sequenceKey ht.typeIs (by decide) ?_)
  refine wpAny_bind (wpAny_callSpecial?_slot (name := Str.ofString "__getitem__") ht.typeIs PyProof.Rows.slot_tuple_getitem
    (wpAny_call_entry PyProof.Rows.slot_tuple_getitem ht.typeIs entry_tuple_getitem ?_ (args_tuple_getitem _ _)))
  show wpAny _ _ (Builtin.Tuple.tupleItemsOf (.ref t) >>= _) _ _ s
  refine wpAny_bind (tupleItemsOf_ ht ?_)
  refine wpAny_bind (wpAny_typeOf hTs ?_)
  rw [if_pos (by decide)]
  have app : ∀ Q' : Int × Int × Nat → Shared → Prop, Q' ((items.size : Int) - 1, -1, items.size) s → wpAny (model prog w) A.in1 (Builtin.Slice.sliceApplied (.ref sl) (pure (items.size : Int))) Q' E s := fun Q' q => by
    unfold Builtin.Slice.sliceApplied Builtin.Slice.sliceFields
    refine wpAny_bind (wpAny_bind (wpAny_field hos hds (x := vl) rfl (wpAny_bind (wpAny_field hos hds (x := vu) rfl (wpAny_bind (wpAny_field hos hds (x := vs) rfl (wpAny_pure ?_)))))))
    refine wpAny_bind (HT.slicePart_ ps ?_)
    show wpAny _ _ (if ((-1 : Int) == 0) = true then _ else _) _ _ s
    rw [if_neg (by decide)]
    refine wpAny_bind (HT.slicePart_ pl (wpAny_bind (HT.slicePart_ pu (wpAny_bind (wpAny_pure ?_)))))
    show wpAny _ _ (match Builtin.Slice.sliceAdjust none none (-1) (items.size : Int) with | (lo, hi) => pure (lo, (-1 : Int), Builtin.Slice.slicePlaces lo hi (-1))) _ _ s
    have e1 : Builtin.Slice.sliceAdjust none none (-1) (items.size : Int) = ((items.size : Int) - 1, -1) := by
      simp [Builtin.Slice.sliceAdjust]
    rw [e1]
    have e2 : Builtin.Slice.slicePlaces ((items.size : Int) - 1) (-1) (-1) = items.size := by
      unfold Builtin.Slice.slicePlaces
      rw [if_neg (by decide)]
      by_cases z : items.size = 0
      · rw [z]
        rfl
      · rw [if_pos (by omega)]
        show ((((items.size : Int) - 1 - -1 - 1) / 1) + 1).toNat = items.size
        rw [Int.ediv_one]
        omega
    show wpAny _ _ (pure ((items.size : Int) - 1, (-1 : Int), Builtin.Slice.slicePlaces ((items.size : Int) - 1) (-1) (-1))) _ _ s
    rw [e2]
    exact wpAny_pure q
  refine wpAny_bind (app _ ?_)
  show wpAny _ _ (if (((items.size : Int) - 1) == 0 && (-1 : Int) == 1 && items.size == items.size) = true then _ else _) _ _ s
  have hno : ¬ ((((items.size : Int) - 1) == 0 && (-1 : Int) == 1 && items.size == items.size) = true) := by
    simp
  rw [if_neg hno, rev_pick]
  first
    | exact wpAny_bind (m := Builtin.Tuple.tupleExact _) (wpAny_newObj_type (wpAny_pure ⟨_, rfl, wpAny_pure h⟩) htake)
    | exact wpAny_bind (m := Builtin.Tuple.tupleExact _) (wpAny_newObj_type (wpAny_bind (wpAny_pure (wpAny_pure ⟨_, rfl, wpAny_pure h⟩))) htake)
    | exact wpAny_bind (wpAny_bind (m := Builtin.Tuple.tupleExact _) (wpAny_newObj_type (wpAny_pure (wpAny_pure ⟨_, rfl, wpAny_pure h⟩)) htake))
    | exact wpAny_bind (wpAny_bind (m := Builtin.Tuple.tupleExact _) (wpAny_newObj_type (wpAny_pure ⟨_, rfl, wpAny_pure h⟩) htake))
end
section
variable {X : Cx}
def tRevT (K : PySem.W.Frag) (te : TE) : TE := fun σ H Q => te σ H fun x H1 => ∃ a xs, x = .ref a ∧ SqT K H1 a xs ∧ ∀ p, H1 p = none → Q (.ref p) (upd H1 p (.tup xs.reverse))
theorem pe_revT {e : Expr} {te : TE} {k : Nat} {p1 p2 p3 pos : Pos} (he : PE X e te) : PE X (.Subscript e (.Slice none none (some (.UnaryOp .USub (.Constant (.int 1) k p1) p2)) p3) pos) (tRevT X.K te) := by
  refine ⟨fun pins s σ H Q I h => ?_⟩
  refine Subscript_ (thn (he.run pins s σ H _ I h) fun v s1 ⟨x, H1, I1, r1, q1⟩ => ?_)
  obtain ⟨a, xs, ex, hx, q⟩ := q1
  subst ex
  cases r1
  have hst : PO X (some (.UnaryOp .USub (.Constant (.int 1) k p1) p2)) (tPart (tUn (rU fun i => .int (-i)) (tC (.int 1)))) := po_some (pe_un un_neg pe_int)
  refine wpAny_Slice (thn (po_none.run pins s1 σ H1 (fun o H2 => o = none ∧ H2 = H1) I1 ⟨rfl, rfl⟩) fun vl s2 ⟨l, H2, I2, pl, el, e2⟩ => ?_)
  subst el e2
  refine thn (po_none.run pins s2 σ H2 (fun o H3 => o = none ∧ H3 = H2) I2 ⟨rfl, rfl⟩) fun vu s3 ⟨u, H3, I3, pu, eu, e3⟩ => ?_
  subst eu e3
  refine thn (hst.run pins s3 σ H3 (fun o H4 => o = some (-1) ∧ H4 = H3) I3 ⟨1, rfl, -1, rfl, rfl, rfl⟩) fun vs s4 ⟨o, H4, I4, ps, eo, e4⟩ => ?_
  subst eo e4
  have I5 : Inv X pins σ H4 { s4 with heap := s4.heap.push { cls := .type "slice", data := .fields #[vl, vu, vs] } } := I4.kept (t' := s4.toks) fun b ob q => Heap.get?_push_of_some _ q
  obtain ⟨its, r, ht, hz⟩ := I5.tuple hx
  have hlen := r.length
  show wpAny (model X.prog X.w) X.A (subscriptTail e (.Slice none none (some (.UnaryOp .USub (.Constant (.int 1) k p1) p2)) p3) (.ref a) (.ref s4.heap.objs.size)) (EP X pins σ Q) X.xe { s4 with heap := s4.heap.push { cls := .type "slice", data := .fields #[vl, vu, vs] } }
  refine tail_any (ops := [.ref a, .ref s4.heap.objs.size]) ht.typeIs (PyProof.Rows.slot_tuple_getitem.lookup) ?_ (by with_unfolding_all rfl)
  refine getItem_tuple_rev ht (Heap.IsSliceOf.new _ vl vu vs) pl pu ps ?_ (by rw [List.size_toArray]; omega)
  refine ⟨.ref _, _, I5.laid (t' := s4.toks) (o := .tup xs.reverse) (fun b ob q => Heap.get?_push_of_some _ q) (Nat.le_refl _) ?_, rfl, q _ (I5.hok.fresh (Nat.le_refl _))⟩
  exact ⟨by rw [List.length_reverse]; exact hz, _, r.reverse, IsTup.new _ _⟩
end
end Vd

namespace K29
open PySem PySem.Spec PyProof.Rows L2 Vd Evl
/-! ### things made beside the bag -/
section
variable {K : PySem.W.Frag} {b : Addr} {G0 : Hp} {σ : L2.St}
def MkB (K : PySem.W.Frag) (b : Addr) (G0 : Hp) (σ : L2.St) (te : TE) (d : PyData) : Prop := ∀ G, Same G0 G → BagAt G b → ∀ Q : VK, (∀ v G', Same G G' → BagAt G' b → Dt K b G' v d → Q v G') → te σ G Q
def MkBs (K : PySem.W.Frag) (b : Addr) (G0 : Hp) (σ : L2.St) (ta : TA) (ds : List PyData) : Prop := ∀ G, Same G0 G → BagAt G b → ∀ Q : List V → Hp → Prop, (∀ vs G', Same G G' → BagAt G' b → DatAll K (del G' b) vs ds → Q vs G') → ta σ G Q
def Good (K : PySem.W.Frag) (b : Addr) (W D : Nat) (G : Hp) (v : V) : Prop := ∃ d, Dt K b G v d ∧ FitN W D d
def MkGs (K : PySem.W.Frag) (b : Addr) (W D : Nat) (G0 : Hp) (σ : L2.St) (ta : TA) (n : Nat) : Prop := ∀ G, Same G0 G → BagAt G b → ∀ Q : List V → Hp → Prop, (∀ vs G', Same G G' → BagAt G' b → vs.length = n → (∀ v ∈ vs, Good K b W D G' v) → Q vs G') → ta σ G Q
theorem Good.but {W D : Nat} {G G' : Hp} {v : V} (s : But b G G') (h : Good K b W D G v) : Good K b W D G' v := by
  obtain ⟨d, x, f⟩ := h
  exact ⟨d, x.but s, f⟩
/-- a list changes: what has no list stays -/
theorem Good.put {W D : Nat} {G : Hp} {p : Addr} {xs ys : List V} {v : V} (at_p : G p = some (.lst xs)) (h : Good K b W D G v) : Good K b W D (upd G p (.lst ys)) v := by
  obtain ⟨d, x, f⟩ := h
  refine ⟨d, strip (fun q o e no => ?_) f.no x, f⟩
  have qb : q ≠ b := fun z => by
    rw [z, del_same] at e
    cases e
  rw [del_ne qb] at e ⊢
  have qp : q ≠ p := fun z => by
    rw [z, at_p] at e
    cases e
    exact no _ rfl
  rw [upd_ne qp]
  exact e
theorem mb_int (i : Int) : MkB K b G0 σ (tC (.int i)) (.int i) := fun G _ bag Q q => q _ G (Same.refl G) bag (.int i)
theorem mb_str (x : Str) : MkB K b G0 σ (tC (.str x)) (.str x) := fun G _ bag Q q => q _ G (Same.refl G) bag (.str x)
theorem mb_var {i : Nat} {v : V} {d : PyData} (e : σ[i]? = some (some v)) (h : Dt K b G0 v d) : MkB K b G0 σ (tVar i) d := fun G s bag Q q => ⟨v, e, q _ G (Same.refl G) bag (h.but (But.of s))⟩
theorem mbs_nil : MkBs K b G0 σ tNil [] := fun G _ bag Q q => q [] G (Same.refl G) bag .nil
theorem mbs_cons {te : TE} {ta : TA} {d : PyData} {ds : List PyData} (a : MkB K b G0 σ te d) (r : MkBs K b G0 σ ta ds) : MkBs K b G0 σ (tCons te ta) (d :: ds) := fun G s bag Q q =>
  a G s bag _ fun v G1 s1 bag1 h1 => r G1 (s.trans s1) bag1 _ fun vs G2 s2 bag2 h2 => q (v :: vs) G2 (s1.trans s2) bag2 (.cons (h1.but (But.of s2)) h2)
theorem mb_tup {ta : TA} {ds : List PyData} (a : MkBs K b G0 σ ta ds) (few : ds.length ≤ 1000) : MkB K b G0 σ (tTup ta) (.tuple ds) := fun G s bag Q q =>
  a G s bag _ fun vs G1 s1 bag1 h => ⟨line1000 (by rw [dats_len h]; omega), fun p np => q _ _ (s1.trans (same_upd1 np)) (bag1.same (same_upd1 np))
    (.tup (.inl (.inl (dt_at (But.free (But.refl b G1) bag1 np).1 upd_same))) (DatAll.but (But.of (same_upd1 np)) h))⟩
theorem dats_app {H : Hp} : ∀ {vs ws : List V} {ds es : List PyData}, DatAll K H vs ds → DatAll K H ws es → DatAll K H (vs ++ ws) (ds ++ es)
  | _, _, _, _, .nil, h => h
  | _, _, _, _, .cons x y, h => .cons x (dats_app y h)
theorem dats_rep {H : Hp} {vs : List V} {ds : List PyData} (h : DatAll K H vs ds) : ∀ k : Nat, DatAll K H (List.replicate k vs).flatten (List.replicate k ds).flatten
  | 0 => .nil
  | k + 1 => by
    have ih := dats_rep h k
    rw [List.replicate_succ, List.replicate_succ, List.flatten_cons, List.flatten_cons]
    exact dats_app h ih
theorem mb_rep {te : TE} {ds : List PyData} {i k : Nat} (a : MkB K b G0 σ te (.tuple ds)) (ne : ds ≠ []) (few : ds.length ≤ 1000) (e : σ[i]? = some (some (.int k))) (le : k ≤ 1000) : MkB K b G0 σ (tOp (rRepS K) te (tVar i)) (.tuple (List.replicate k ds).flatten) := fun G s bag Q q =>
  a G s bag _ fun v G1 s1 bag1 h => by
    refine ⟨_, e, ?_⟩
    have h' : Dat K (del G1 b) v (.tuple ds) := h
    cases h' with
    | @tup p xs _ sq all =>
      have len := dats_len all
      have sq1 : SqT K G1 p xs := by
        rcases sq with (sq | ⟨o, sq⟩) | sq
        · by_cases z : p = b
          · rw [z, del_same] at sq; cases sq
          · rw [del_ne z] at sq; exact .inl (.inl sq)
        · by_cases z : p = b
          · rw [z, del_same] at sq; cases sq
          · rw [del_ne z] at sq; exact .inl (.inr ⟨o, sq⟩)
        · exact .inr sq
      refine ⟨p, k, xs, rfl, rfl, sq1, ?_, le, by omega, ?_⟩
      · intro z
        rw [z] at len
        exact ne (List.eq_nil_of_length_eq_zero len.symm)
      · by_cases k1 : k = 1
        · subst k1
          refine .inl ⟨rfl, q _ G1 s1 bag1 ?_⟩
          have e1 : (List.replicate 1 ds).flatten = ds := by simp
          rw [e1]
          exact h
        · exact .inr ⟨k1, fun p2 np => q _ _ (s1.trans (same_upd1 np)) (bag1.same (same_upd1 np)) (.tup (.inl (.inl (dt_at (But.free (But.refl b G1) bag1 np).1 upd_same))) (DatAll.but (But.of (same_upd1 np)) (dats_rep all k)))⟩
theorem mgs_nil {W D : Nat} : MkGs K b W D G0 σ tNil 0 := fun G _ bag Q q => q [] G (Same.refl G) bag rfl fun v m => nomatch m
theorem mgs_cons {W D n : Nat} {te : TE} {ta : TA} {d : PyData} (a : MkB K b G0 σ te d) (f : FitN W D d) (r : MkGs K b W D G0 σ ta n) : MkGs K b W D G0 σ (tCons te ta) (n + 1) := fun G s bag Q q =>
  a G s bag _ fun v G1 s1 bag1 h1 => r G1 (s.trans s1) bag1 _ fun vs G2 s2 bag2 len each => q (v :: vs) G2 (s1.trans s2) bag2 (by rw [List.length_cons, len]) fun u m => by
    cases m with
    | head => exact ⟨d, h1.but (But.of s2), f⟩
    | tail _ m => exact each u m
end
section
variable {K : PySem.W.Frag} {b : Addr} {W D n : Nat} {G : Hp} {σ : L2.St} {ta : TA}
theorem gs_lst {Q : VK} (h : MkGs K b W D G σ ta n) (bag : BagAt G b) (few : n ≤ 1000)
    (q : ∀ xs G' p, Same G G' → BagAt G' b → xs.length = n → (∀ v ∈ xs, Good K b W D G' v) → G' p = none → Q (.ref p) (upd G' p (.lst xs))) : tLst ta σ G Q :=
  h G (Same.refl G) bag _ fun xs G' s bag' len each => ⟨line1000 (by omega), fun p np => q xs G' p s bag' len each np⟩
theorem gs_set {u : TS} {E : Ends} {i : Nat} (h : MkGs K b W D G σ ta n) (bag : BagAt G b) (few : n ≤ 1000)
    (q : ∀ xs G' p, Same G G' → BagAt G' b → xs.length = n → (∀ v ∈ xs, Good K b W D G' v) → G' p = none → u E (σ.set i (some (.ref p))) (upd G' p (.lst xs))) : tSeq (tAsg (tLst ta) (gName i)) u E σ G :=
  gs_lst (Q := fun v H1 => u E (σ.set i (some v)) H1) h bag few q
end
section
variable {P : Program} {w : World} {K : PySem.W.Frag} {mg : Str → Option Value} {base : Heap}
abbrev sNear : Stmt := topS 36
theorem scNear : FnScope ["bag", "name", "number", "other", "purse", "many", "some"] ["bag"] (defScope sNear) := ⟨rfl, rfl, rfl, by decide +kernel, rfl, by decide +kernel, by decide +kernel⟩
/-- a thing beside the bag, within bounds -/
def spThing (K : PySem.W.Frag) : Sp := fun vs H Q _ => ∃ b : Addr, vs = [.ref b] ∧ BagAt H b ∧ ∀ H' v d, But b H H' → BagAt H' b → Dt K b H' v d → Fit 100000 10 d → Q v H'
theorem flat_new {σ : L2.St} {b : Addr} {H : Hp} : True := trivial
/-- one of flat things -/
def flatD : V → PyData
  | .non => .none
  | .bl b => .bool b
  | .int i => .int i
  | .str x => .str x
  | _ => .none
def isFlat : V → Bool
  | .non => true
  | .bl _ => true
  | .int _ => true
  | .str _ => true
  | _ => false
theorem flat_dt {b : Addr} {G : Hp} {v : V} (h : isFlat v = true) : Dt K b G v (flatD v) := by
  cases v with
  | non => exact .non
  | bl b => exact .bl b
  | int i => exact .int i
  | str x => exact .str x
  | _ => cases h
theorem ok_near {f fT fS : Addr} {fd fdT fdS : FuncData} (F : At K mg "_law_near" sNear ["bag"] f fd) (T : At K mg "_law_take" sTake ["bag", "many"] fT fdT) (S : At K mg "_law_some" sSome ["bag", "things"] fS fdS) (mi : mg "int" = none) (ml : mg "len" = none) :
    FnOk P w K mg base CX0 3 f fd ["bag"] (spThing K) := by
  have GT : FnOk P w K mg base CX0 1 fT fdT ["bag", "many"] spTake := ok_take T.fn mi
  have GS : FnOk P w K mg base CX0 2 fS fdS ["bag", "things"] (spSome K) := ok_some S T mi ml
  refine F.fn.ok scNear (fun vs H Q E h => ?_) (fun cdv A outer s H vs Q E hr h => ?_)
  · obtain ⟨b, rfl, _⟩ := h
    rfl
  · obtain ⟨b, rfl, bag, fin⟩ := h
    have nd := scNear.nd
    have hr1 : Room 1 _ := hr.mono (by decide)
    refine ⟨_, pss_cut (ps_set (i := 1) nd rfl (Or.inl rfl) (pe_call GS hr (by rfl) S.g S.fn.kp S.b .nil pass0 (pa_cons (pv 0) (pa_cons (pe_lst (pa_cons pe_str (pa_cons pe_str (pa_cons pe_str (pa_cons pe_str (pa_cons pe_str (pa_cons pe_str (pa_cons pe_str (pa_cons pe_str pa_nil))))))))) pa_nil))))
      (pss_cut (ps_set (i := 2) nd rfl (Or.inl rfl) (pe_call GS hr (by rfl) S.g S.fn.kp S.b .nil pass0 (pa_cons (pv 0) (pa_cons (pe_lst (pa_cons pe_int (pa_cons pe_int (pa_cons (pe_un un_neg pe_int) (pa_cons pe_int (pa_cons pe_int (pa_cons (pe_op op_pow pe_int pe_int) (pa_cons (pe_op op_pow pe_int pe_int) (pa_cons pe_bl (pa_cons pe_non (pa_cons pe_str pa_nil))))))))))) pa_nil))))
      (pss_cut (ps_set (i := 3) nd rfl (Or.inl rfl) (pe_call GS hr (by rfl) S.g S.fn.kp S.b .nil pass0 (pa_cons (pv 0) (pa_cons (pe_lst (pa_cons pe_int (pa_cons pe_int (pa_cons pe_int (pa_cons pe_int (pa_cons (pe_un un_neg pe_int) (pa_cons pe_bl pa_nil))))))) pa_nil))))
      (pss_cut (ps_par (i := 4) (j := 5) (by rfl) nd rfl rfl (by decide) rfl rfl (pa_cons (pe_tup (pa_cons (pv 2) (pa_cons (pv 3) pa_nil))) (pa_cons (pe_call GT hr1 (by rfl) T.g T.fn.kp T.b .nil pass0 (pa_cons (pv 0) (pa_cons pe_int pa_nil))) pa_nil)) (by rfl))
      (pss_cons (ps_set (i := 6) nd rfl (Or.inl rfl) (pe_lst (pa_cons (pv 1) (pa_cons (pv 2) (pa_cons (pv 4) (pa_cons (pe_tup (pa_cons pe_int (pa_cons (pv 3) pa_nil))) (pa_cons (pe_tup (pa_cons (pv 3) (pa_cons pe_int pa_nil)))
          (pa_cons (pe_tup (pa_cons (pv 1) (pa_cons (pv 2) (pa_cons (pe_op op_repS (pe_tup (pa_cons (pv 4) pa_nil)) (pv 5)) pa_nil))))
          (pa_cons (pe_tup (pa_cons (pv 1) (pa_cons pe_int (pa_cons (pe_op op_repS (pe_tup (pa_cons (pe_tup (pa_cons pe_int (pa_cons pe_int pa_nil))) pa_nil)) (pv 5)) pa_nil)))) pa_nil)))))))))
      (pss_cons (ps_expr (pe_bm PySem.F.plainAttrs_list PySem.F.slot_list_extend PySem.F.type_list_extend mt_extend (pv 6) (pa_cons (pe_lst
          (pa_cons (pe_tup (pa_cons pe_str (pa_cons (pv 1) (pa_cons pe_int (pa_cons (pv 3) pa_nil))))) (pa_cons (pe_tup (pa_cons pe_str (pa_cons pe_str (pa_cons (pv 2) (pa_cons (pv 3) pa_nil)))))
          (pa_cons (pe_tup (pa_cons pe_str (pa_cons pe_str (pa_cons pe_int (pa_cons pe_int pa_nil))))) (pa_cons (pe_tup (pa_cons (pv 1) (pa_cons pe_str (pa_cons pe_int (pa_cons pe_int pa_nil))))) pa_nil))))) pa_nil)))
      (pss_one (ps_ret (pe_call GS hr (by rfl) S.g S.fn.kp S.b .nil pass0 (pa_cons (pv 0) (pa_cons (pe_op op_cat (pv 6) (pe_lst (pa_cons (pe_tup (pa_cons pe_str (pa_cons pe_str (pa_cons pe_int (pa_cons pe_int pa_nil))))) pa_nil))) pa_nil)))))))))), ?_⟩
    refine ⟨fun σ' G => ∃ v1, σ' = ([some (.ref b), some v1, none, none, none, none, none] : L2.St) ∧ isFlat v1 = true ∧ FitN 2000 0 (flatD v1) ∧ But b H G, ?_, ?_⟩
    · refine ⟨_, rfl, len_line (by show 8 ≤ 100000; decide), fun p np => ?_⟩
      have pb := (But.free (But.refl b H) bag np).1
      refine ⟨b, p, _, rfl, bag.new np, .inl (SqL.of upd_same), pb, by show 0 < 8; decide, by show 8 < 1073741824; decide, fun G1 x mem but1 bag1 => ?_⟩
      have s1 := ((But.refl b H).new np).trans but1
      simp only [List.mem_cons, List.not_mem_nil, or_false] at mem
      rcases mem with e | e | e | e | e | e | e | e <;> subst e <;> exact ⟨_, rfl, rfl, FitN.of (by decide +kernel) rfl, s1⟩
    rintro _ G1 ⟨v1, rfl, fl1, f1, s1⟩
    have bag1 := bag.but s1
    refine ⟨fun σ' G => ∃ v2, σ' = ([some (.ref b), some v1, some v2, none, none, none, none] : L2.St) ∧ isFlat v2 = true ∧ FitN 2000 0 (flatD v2) ∧ But b H G, ?_, ?_⟩
    · refine ⟨_, rfl, 1, rfl, 10, 12, rfl, rfl, ⟨by decide, by decide, by decide⟩, 10, 39, rfl, rfl, ⟨by decide, by decide, by decide⟩, len_line (by show 10 ≤ 100000; decide), fun p np => ?_⟩
      have pb := (But.free (But.refl b G1) bag1 np).1
      refine ⟨b, p, _, rfl, bag1.new np, .inl (SqL.of upd_same), pb, by show 0 < 10; decide, by show 10 < 1073741824; decide, fun G2 x mem but2 bag2 => ?_⟩
      have s2 := (s1.new np).trans but2
      simp only [List.mem_cons, List.not_mem_nil, or_false] at mem
      rcases mem with e | e | e | e | e | e | e | e | e | e <;> subst e <;> exact ⟨_, rfl, rfl, FitN.of (by decide +kernel) rfl, s2⟩
    rintro _ G2 ⟨v2, rfl, fl2, f2, s2⟩
    have bag2 := bag.but s2
    refine ⟨fun σ' G => ∃ v3, σ' = ([some (.ref b), some v1, some v2, some v3, none, none, none] : L2.St) ∧ isFlat v3 = true ∧ FitN 2000 0 (flatD v3) ∧ But b H G, ?_, ?_⟩
    · refine ⟨_, rfl, 1, rfl, len_line (by show 6 ≤ 100000; decide), fun p np => ?_⟩
      have pb := (But.free (But.refl b G2) bag2 np).1
      refine ⟨b, p, _, rfl, bag2.new np, .inl (SqL.of upd_same), pb, by show 0 < 6; decide, by show 6 < 1073741824; decide, fun G3 x mem but3 bag3 => ?_⟩
      have s3 := (s2.new np).trans but3
      simp only [List.mem_cons, List.not_mem_nil, or_false] at mem
      rcases mem with e | e | e | e | e | e <;> subst e <;> exact ⟨_, rfl, rfl, FitN.of (by decide +kernel) rfl, s3⟩
    rintro _ G3 ⟨v3, rfl, fl3, f3, s3⟩
    have bag3 := bag.but s3
    refine ⟨fun σ' G => ∃ (p : Addr) (many : Nat), σ' = ([some (.ref b), some v1, some v2, some v3, some (.ref p), some (.int many), none] : L2.St) ∧ many ≤ 2 ∧ Dt K b G (.ref p) (.tuple [flatD v2, flatD v3]) ∧ But b H G, ?_, ?_⟩
    · refine ⟨_, rfl, _, rfl, len_line (by show 2 ≤ 100000; decide), fun p np => ?_⟩
      have pb := (But.free (But.refl b G3) bag3 np).1
      have s4 := s3.new (o := .tup [v2, v3]) np
      refine ⟨_, rfl, b, 3, rfl, bag3.new np, by decide, by decide, fun G4 v but4 bag4 v0 v1' => ?_⟩
      obtain ⟨n, rfl⟩ := Int.eq_ofNat_of_zero_le v0
      have dt : Dt K b (upd G3 p (.tup [v2, v3])) (.ref p) (.tuple [flatD v2, flatD v3]) := .tup (.inl (.inl (dt_at pb upd_same))) (.cons (flat_dt fl2) (.cons (flat_dt fl3) .nil))
      exact ⟨_, _, rfl, p, n, rfl, by omega, dt.but but4, s4.trans but4⟩
    rintro _ G4 ⟨p4, many, rfl, m2, dt4, s4⟩
    have bag4 := bag.but s4
    have var1 : ∀ {G : Hp} {σ : L2.St}, σ[1]? = some (some v1) → MkB K b G σ (tVar 1) (flatD v1) := fun e => mb_var e (flat_dt fl1)
    have var2 : ∀ {G : Hp} {σ : L2.St}, σ[2]? = some (some v2) → MkB K b G σ (tVar 2) (flatD v2) := fun e => mb_var e (flat_dt fl2)
    have var3 : ∀ {G : Hp} {σ : L2.St}, σ[3]? = some (some v3) → MkB K b G σ (tVar 3) (flatD v3) := fun e => mb_var e (flat_dt fl3)
    have i4 : FitN 2000 0 (.int 4) := FitN.of (by decide +kernel) rfl
    have fitP : FitN 4008 1 (.tuple [flatD v2, flatD v3]) := FitN.tup (n := 2) (W := 2000) (D := 0) (all_cons f2 (all_cons f3 all_nil)) (Nat.le_of_ble_eq_true rfl)
    have rep_fit : ∀ {d : PyData} {W D : Nat}, FitN W D d → FitN (2 * (W + 2) + 4) (D + 1) (.tuple (List.replicate many [d]).flatten) := fun {d W D} h => by
      refine FitN.tup (n := 2) (fun e m => ?_) ?_
      · obtain ⟨l, ml', me⟩ := List.mem_flatten.mp m
        rw [(List.mem_replicate.mp ml').2] at me
        simp only [List.mem_cons, List.not_mem_nil, or_false] at me
        subst me
        exact h
      · rw [List.length_flatten]
        simp
        omega
    have three : ∀ {x y z : PyData} {W D : Nat}, FitN W D x → FitN W D y → FitN W D z → FitN (3 * (W + 2) + 4) (D + 1) (.tuple [x, y, z]) := fun hx hy hz =>
      FitN.tup (n := 3) (all_cons hx (all_cons hy (all_cons hz all_nil))) (Nat.le_of_ble_eq_true rfl)
    have two : ∀ {x y : PyData} {W D : Nat}, FitN W D x → FitN W D y → FitN (2 * (W + 2) + 4) (D + 1) (.tuple [x, y]) := fun hx hy =>
      FitN.tup (n := 2) (all_cons hx (all_cons hy all_nil)) (Nat.le_of_ble_eq_true rfl)
    have four : ∀ {x y z u : PyData} {W D : Nat}, FitN W D x → FitN W D y → FitN W D z → FitN W D u → FitN (4 * (W + 2) + 4) (D + 1) (.tuple [x, y, z, u]) := fun hx hy hz hu =>
      FitN.tup (n := 4) (all_cons hx (all_cons hy (all_cons hz (all_cons hu all_nil)))) (Nat.le_of_ble_eq_true rfl)
    have flt : ∀ {d : PyData}, FitN 2000 0 d → FitN 50000 5 d := fun h => h.more (by decide) (by decide)
    -- the first seven
    have first_ : MkGs K b 50000 5 G4 ([some (.ref b), some v1, some v2, some v3, some (.ref p4), some (.int many), none] : L2.St) _ 7 :=
      mgs_cons (var1 rfl) (flt f1) (mgs_cons (var2 rfl) (flt f2) (mgs_cons (mb_var (i := 4) rfl dt4) (fitP.more (by decide) (by decide))
      (mgs_cons (mb_tup (mbs_cons (mb_int 4) (mbs_cons (var3 rfl) mbs_nil)) (Nat.le_of_ble_eq_true rfl)) ((two i4 f3).more (by decide) (by decide))
      (mgs_cons (mb_tup (mbs_cons (var3 rfl) (mbs_cons (mb_int 4) mbs_nil)) (Nat.le_of_ble_eq_true rfl)) ((two f3 i4).more (by decide) (by decide))
      (mgs_cons (mb_tup (mbs_cons (var1 rfl) (mbs_cons (var2 rfl) (mbs_cons (mb_rep (i := 5) (mb_tup (mbs_cons (mb_var (i := 4) rfl dt4) mbs_nil) (Nat.le_of_ble_eq_true rfl)) (by simp) (Nat.le_of_ble_eq_true rfl) rfl (by omega)) mbs_nil))) (Nat.le_of_ble_eq_true rfl))
        ((three (f1.more (by decide) (by decide)) (f2.more (by decide) (by decide)) (rep_fit fitP)).more (by decide) (by decide))
      (mgs_cons (mb_tup (mbs_cons (var1 rfl) (mbs_cons (mb_int 2) (mbs_cons (mb_rep (i := 5) (mb_tup (mbs_cons (mb_tup (mbs_cons (mb_int 3) (mbs_cons (mb_int 1) mbs_nil)) (Nat.le_of_ble_eq_true rfl)) mbs_nil) (Nat.le_of_ble_eq_true rfl)) (by simp) (Nat.le_of_ble_eq_true rfl) rfl (by omega)) mbs_nil))) (Nat.le_of_ble_eq_true rfl))
        ((three (f1.more (by decide) (by decide)) (FitN.of (W := 12000) (D := 2) (by decide +kernel) rfl) ((rep_fit (W := 4000) (D := 1) (FitN.of (by decide +kernel) rfl)).more (by decide) (by decide))).more (by decide) (by decide))
      mgs_nil))))))
    refine gs_set first_ bag4 (by decide) fun xs G5 p s5 bag5 len5 good5 np => ?_
    have pb := (But.free (But.refl b G5) bag5 np).1
    have s6 : Same G5 (upd G5 p (.lst xs)) := same_upd1 np
    have bag6 := bag5.same s6
    have but6 := s4.trans (But.of (s5.trans s6))
    have p0 : H p = none := (But.free (s4.trans (But.of s5)) bag5 np).2
    have good6 : ∀ v ∈ xs, Good K b 50000 5 (upd G5 p (.lst xs)) v := fun v m => (good5 v m).but (But.of s6)
    generalize eG : upd G5 p (.lst xs) = G6 at s6 bag6 but6 good6
    have at_p : G6 p = some (.lst xs) := by rw [← eG]; exact upd_same
    -- four more
    have second_ : MkGs K b 50000 5 G6 ([some (.ref b), some v1, some v2, some v3, some (.ref p4), some (.int many), some (.ref p)] : L2.St) _ 4 :=
      mgs_cons (mb_tup (mbs_cons (mb_str "a") (mbs_cons (var1 rfl) (mbs_cons (mb_int 3) (mbs_cons (var3 rfl) mbs_nil)))) (Nat.le_of_ble_eq_true rfl)) ((four (FitN.of (W := 2000) (D := 0) (by decide +kernel) rfl) f1 (FitN.of (by decide +kernel) rfl) f3).more (by decide) (by decide))
      (mgs_cons (mb_tup (mbs_cons (mb_str "a") (mbs_cons (mb_str "b") (mbs_cons (var2 rfl) (mbs_cons (var3 rfl) mbs_nil)))) (Nat.le_of_ble_eq_true rfl)) ((four (FitN.of (W := 2000) (D := 0) (by decide +kernel) rfl) (FitN.of (by decide +kernel) rfl) f2 f3).more (by decide) (by decide))
      (mgs_cons (mb_tup (mbs_cons (mb_str "a") (mbs_cons (mb_str "a") (mbs_cons (mb_int 2) (mbs_cons (mb_int 1) mbs_nil)))) (Nat.le_of_ble_eq_true rfl)) (FitN.of (by decide +kernel) rfl)
      (mgs_cons (mb_tup (mbs_cons (var1 rfl) (mbs_cons (mb_str "fill") (mbs_cons (mb_int 20) (mbs_cons (mb_int 21) mbs_nil)))) (Nat.le_of_ble_eq_true rfl)) ((four f1 (FitN.of (by decide +kernel) rfl) (FitN.of (by decide +kernel) rfl) (FitN.of (by decide +kernel) rfl)).more (by decide) (by decide))
      mgs_nil)))
    refine ⟨_, rfl, .inl ⟨rfl, _, SqL.of at_p⟩, ?_⟩
    refine gs_lst second_ bag6 (by decide) fun ys G7 p2 s7 bag7 len7 good7 np2 => ?_
    have s8 : Same G7 (upd G7 p2 (.lst ys)) := same_upd1 np2
    have at_p8 := s8 _ _ (s7 _ _ at_p)
    refine ⟨p, p2, xs, ys, rfl, rfl, at_p8, upd_same, line1000 (by omega), ?_⟩
    have bag8 := bag7.same s8
    have good8 : ∀ v ∈ xs ++ ys, Good K b 50000 5 (upd G7 p2 (.lst ys)) v := fun v m => by
      rcases List.mem_append.mp m with m | m
      · exact (good6 v m).but (But.of (s7.trans s8))
      · exact (good7 v m).but (But.of s8)
    have but8 := but6.trans (But.of (s7.trans s8))
    generalize upd G7 p2 (.lst ys) = G8 at at_p8 bag8 good8 but8
    have good9 : ∀ v ∈ xs ++ ys, Good K b 50000 5 (upd G8 p (.lst (xs ++ ys))) v := fun v m => (good8 v m).put at_p8
    have but9 := but8.put (o := .lst (xs ++ ys)) p0 pb
    have bag9 := bag.but but9
    have at_p9 : upd G8 p (.lst (xs ++ ys)) p = some (.lst (xs ++ ys)) := upd_same
    generalize upd G8 p (.lst (xs ++ ys)) = G9 at at_p9 bag9 good9 but9
    -- one of them
    refine ⟨_, rfl, _, rfl, ?_⟩
    have third_ : MkGs K b 50000 5 G9 ([some (.ref b), some v1, some v2, some v3, some (.ref p4), some (.int many), some (.ref p)] : L2.St) _ 1 :=
      mgs_cons (mb_tup (mbs_cons (mb_str "a") (mbs_cons (mb_str "b") (mbs_cons (mb_int 1) (mbs_cons (mb_int 1) mbs_nil)))) (by decide)) (FitN.of (by decide +kernel) rfl) mgs_nil
    refine gs_lst third_ bag9 (by decide) fun zs G10 p3 s10 bag10 len10 good10 np3 => ?_
    have s11 : Same G10 (upd G10 p3 (.lst zs)) := same_upd1 np3
    refine ⟨p, p3, xs ++ ys, zs, rfl, rfl, s11 _ _ (s10 _ _ at_p9), upd_same, line1000 (by rw [List.length_append]; omega), fun p4 np4 => ?_⟩
    have s12 : Same (upd G10 p3 (.lst zs)) (upd (upd G10 p3 (.lst zs)) p4 (.lst (xs ++ ys ++ zs))) := same_upd1 np4
    have pb4 := (But.free (But.refl b _) (bag10.same s11) np4).1
    refine ⟨b, p4, _, rfl, (bag10.same s11).same s12, .inl (SqL.of upd_same), pb4, by simp only [List.length_append]; omega, by simp only [List.length_append]; omega, fun G13 x mem but13 bag13 => ?_⟩
    have g : Good K b 50000 5 G13 x := by
      rcases List.mem_append.mp mem with m | m
      · exact (good9 x m).but ((But.of (s10.trans (s11.trans s12))).trans but13)
      · exact (good10 x m).but ((But.of (s11.trans s12)).trans but13)
    obtain ⟨d, dt, fit⟩ := g
    exact fin G13 x d (but9.trans ((But.of (s10.trans (s11.trans s12))).trans but13)) bag13 dt (fit.fit.more (by decide) (by decide))
end
end K29

namespace K29
open PySem PySem.Spec PyProof.Rows L2 Vd Evl
/-! ### plain things: ints, texts, tuples of such -/
mutual
def plain : PyData → Bool
  | .int i => decide (i.natAbs ≤ 1000)
  | .str x => decide (x.length ≤ 20) && x.cps.toList.all fun c => decide (c < 0x110000)
  | .tuple xs => plains xs
  | _ => false
def plains : List PyData → Bool
  | [] => true
  | x :: xs => plain x && plains xs
end
theorem plains_mem : ∀ {ds : List PyData}, plains ds = true → ∀ d ∈ ds, plain d = true
  | [], _, d, no => nomatch no
  | x :: xs, h, d, m => by
    simp only [plains, Bool.and_eq_true] at h
    cases m with
    | head => exact h.1
    | tail _ m => exact plains_mem h.2 d m
theorem txt_nice {x : Str} (h : (x.cps.toList.all fun c => decide (c < 0x110000)) = true) : signsOk x = true := by
  refine List.all_eq_true.mpr fun c m => decide_eq_true ?_
  have := of_decide_eq_true (List.all_eq_true.mp h c m)
  have e : (16 : Nat) ^ 8 = 4294967296 := by decide
  omega
mutual
theorem plain_ok : ∀ d : PyData, plain d = true → Vd.nice d = true ∧ K29.txt d = true ∧ K29.small d = true ∧ noList d = true
  | .none, h => by cases h
  | .bool _, h => by cases h
  | .int i, h => by
    have le : i.natAbs ≤ 1000 := of_decide_eq_true h
    have lt : i.natAbs < 2 ^ 400 := Nat.lt_of_le_of_lt le (by decide)
    refine ⟨?_, rfl, decide_eq_true lt, rfl⟩
    exact decide_eq_true (Nat.lt_of_lt_of_le (PySem.Flt.log2_lt_of (by decide) lt) (by decide))
  | .str x, h => by
    simp only [plain, Bool.and_eq_true] at h
    have le : x.length ≤ 20 := of_decide_eq_true h.1
    refine ⟨txt_nice h.2, ?_, rfl, rfl⟩
    simp only [txt, Bool.and_eq_true]
    exact ⟨decide_eq_true (by omega), h.2⟩
  | .list _, h => by cases h
  | .tuple xs, h => by
    obtain ⟨a, b, c, e⟩ := plains_ok xs (by simpa [plain] using h)
    exact ⟨by simpa [Vd.nice] using a, by simpa [txt] using b, by simpa [small] using c, by simpa [noList] using e⟩
  | .dict _, h => by cases h
theorem plains_ok : ∀ ds : List PyData, plains ds = true → nices ds = true ∧ txts ds = true ∧ smalls ds = true ∧ noLists ds = true
  | [], _ => ⟨rfl, rfl, rfl, rfl⟩
  | d :: ds, h => by
    simp only [plains, Bool.and_eq_true] at h
    obtain ⟨a1, a2, a3, a4⟩ := plain_ok d h.1
    obtain ⟨b1, b2, b3, b4⟩ := plains_ok ds h.2
    exact ⟨by simp [nices, a1, b1], by simp [txts, a2, b2], by simp [smalls, a3, b3], by simp [noLists, a4, b4]⟩
end
structure Plain (W D : Nat) (d : PyData) : Prop where
  is : plain d = true
  wgt : Vd.wgt d ≤ W
  deep : d.depth ≤ D
theorem Plain.fit {W D : Nat} {d : PyData} (h : Plain W D d) : Fit W D d := by
  obtain ⟨a, b, c, _⟩ := plain_ok d h.is
  exact ⟨a, b, c, h.wgt, h.deep⟩
theorem depth_mem {d : PyData} : ∀ {ds : List PyData}, d ∈ ds → d.depth ≤ PyData.depthAll ds
  | _ :: _, .head _ => Nat.le_max_left _ _
  | _ :: _, .tail _ m => Nat.le_trans (depth_mem m) (Nat.le_max_right _ _)
theorem Plain.part {W D : Nat} {ds : List PyData} (h : Plain W D (.tuple ds)) {d : PyData} (m : d ∈ ds) : Plain W D d := by
  have h1 := h.wgt
  have h2 := h.deep
  have e : Vd.wgt (.tuple ds) = wgts ds + 4 := rfl
  have e2 : (PyData.tuple ds).depth = PyData.depthAll ds + 1 := rfl
  have := wgts_mem d m
  have := depth_mem m
  exact ⟨plains_mem h.is d m, by omega, by omega⟩
theorem wgts_app : ∀ as bs : List PyData, wgts (as ++ bs) = wgts as + wgts bs
  | [], bs => (Nat.zero_add _).symm
  | a :: as, bs => by
    show Vd.wgt a + 2 + wgts (as ++ bs) = Vd.wgt a + 2 + wgts as + wgts bs
    rw [wgts_app as bs]
    omega
theorem wgts_drop (ds : List PyData) (n : Nat) : wgts (ds.drop n) ≤ wgts ds := by
  have e := wgts_app (ds.take n) (ds.drop n)
  rw [List.take_append_drop] at e
  omega
theorem wgts_take (ds : List PyData) (n : Nat) : wgts (ds.take n) ≤ wgts ds := by
  have e := wgts_app (ds.take n) (ds.drop n)
  rw [List.take_append_drop] at e
  omega
def cutD (ds : List PyData) (lo hi : Option Int) : List PyData := (ds.drop (HT.sIx ds.length 0 lo)).take (HT.sIx ds.length ds.length hi - HT.sIx ds.length 0 lo)
theorem cut_wgts (ds : List PyData) (lo hi : Option Int) : wgts (cutD ds lo hi) ≤ wgts ds := Nat.le_trans (wgts_take _ _) (wgts_drop _ _)
theorem cut_mem {ds : List PyData} {lo hi : Option Int} {d : PyData} (m : d ∈ cutD ds lo hi) : d ∈ ds := List.mem_of_mem_drop (List.mem_of_mem_take m)
theorem cut_len (ds : List PyData) (lo hi : Option Int) : (cutD ds lo hi).length ≤ ds.length := by
  unfold cutD
  rw [List.length_take, List.length_drop]
  omega
theorem nices_of : ∀ {ds : List PyData}, (∀ d ∈ ds, Vd.nice d = true ∧ K29.txt d = true ∧ K29.small d = true) → nices ds = true ∧ txts ds = true ∧ smalls ds = true
  | [], _ => ⟨rfl, rfl, rfl⟩
  | d :: ds, h => by
    obtain ⟨a1, a2, a3⟩ := h d (.head _)
    obtain ⟨b1, b2, b3⟩ := nices_of (ds := ds) fun e m => h e (.tail _ m)
    exact ⟨by simp [nices, a1, b1], by simp [txts, a2, b2], by simp [smalls, a3, b3]⟩
theorem depthAll_le {D : Nat} : ∀ {ds : List PyData}, (∀ d ∈ ds, d.depth ≤ D) → PyData.depthAll ds ≤ D
  | [], _ => Nat.zero_le _
  | d :: ds, h => Nat.max_le.mpr ⟨h d (.head _), depthAll_le fun e m => h e (.tail _ m)⟩
/-- a tuple of fitting things, its weight told -/
theorem Fit.tupW {W D : Nat} {ds : List PyData} (h : ∀ d ∈ ds, Vd.nice d = true ∧ K29.txt d = true ∧ K29.small d = true ∧ d.depth ≤ D) (w : wgts ds + 4 ≤ W) : Fit W (D + 1) (.tuple ds) := by
  obtain ⟨a, b, c⟩ := nices_of (ds := ds) fun d m => ⟨(h d m).1, (h d m).2.1, (h d m).2.2.1⟩
  exact ⟨by simpa [Vd.nice] using a, by simpa [K29.txt] using b, by simpa [K29.small] using c, w, Nat.succ_le_succ (depthAll_le fun d m => (h d m).2.2.2)⟩
/-! ### how an int is shown -/
theorem int_txt (i : Int) : ∀ c ∈ (Str.ofString (toString i)).cps.toList, c < 58 := fun c m => by
  by_cases h : c = 45
  · omega
  · by_cases h2 : c < 48 ∨ 57 < c
    · exact absurd m (int_text_free' c ⟨h, h2⟩ i)
    · omega
theorem int_str {i : Int} (h : i.natAbs ≤ 1000) : Fit 20000 0 (.str (toString i : String)) := by
  have lt : i.natAbs < 2 ^ 400 := Nat.lt_of_le_of_lt h (by decide)
  have len := int_text_len_1921 (i := i) (Nat.lt_of_lt_of_le (PySem.Flt.log2_lt_of (by decide) lt) (by decide))
  have al : ((Str.ofString (toString i)).cps.toList.all fun c => decide (c < 0x110000)) = true := List.all_eq_true.mpr fun c m => decide_eq_true (by have := int_txt i c m; omega)
  refine ⟨txt_nice al, ?_, rfl, ?_, Nat.le_refl _⟩
  · simp only [txt, Bool.and_eq_true]
    exact ⟨decide_eq_true (by omega), al⟩
  · show 10 * (Str.ofString (toString i)).length + 2 ≤ 20000
    omega
/-! ### slices beside the bag -/
section
variable {K : PySem.W.Frag} {b : Addr} {G0 : Hp} {σ : L2.St}
def PartIs (σ : L2.St) (t : TO) (o : Option Int) : Prop := ∀ (G : Hp) (Q : Option Int → Hp → Prop), Q o G → t σ G Q
theorem part_none : PartIs σ tNoPart none := fun _ _ q => q
theorem part_var {i : Nat} {k : Int} (e : σ[i]? = some (some (.int k))) : PartIs σ (tPart (tVar i)) (some k) := fun G Q q => ⟨_, e, k, rfl, q⟩
theorem part_add {i : Nat} {k : Int} (e : σ[i]? = some (some (.int k))) : PartIs σ (tPart (tOp (rI0 fun i j => .int (i + j)) (tVar i) (tC (.int 1)))) (some (k + 1)) := fun G Q q => ⟨_, e, k, 1, rfl, rfl, k + 1, rfl, q⟩
theorem sqt_out {G : Hp} {p : Addr} {xs : List V} (sq : SqT K (del G b) p xs) : SqT K G p xs := by
  rcases sq with (sq | ⟨o, sq⟩) | sq
  · by_cases z : p = b
    · rw [z, del_same] at sq; cases sq
    · rw [del_ne z] at sq; exact .inl (.inl sq)
  · by_cases z : p = b
    · rw [z, del_same] at sq; cases sq
    · rw [del_ne z] at sq; exact .inl (.inr ⟨o, sq⟩)
  · exact .inr sq
theorem dats_drop {H : Hp} : ∀ {vs : List V} {ds : List PyData} (n : Nat), DatAll K H vs ds → DatAll K H (vs.drop n) (ds.drop n)
  | _, _, 0, h => h
  | _, _, n + 1, .nil => .nil
  | _, _, n + 1, .cons _ r => dats_drop n r
theorem dats_take {H : Hp} : ∀ {vs : List V} {ds : List PyData} (n : Nat), DatAll K H vs ds → DatAll K H (vs.take n) (ds.take n)
  | _, _, 0, _ => .nil
  | _, _, n + 1, .nil => .nil
  | _, _, n + 1, .cons a r => .cons a (dats_take n r)
theorem dats_cut {H : Hp} {vs : List V} {ds : List PyData} (lo hi : Option Int) (h : DatAll K H vs ds) : DatAll K H (cutV vs lo hi) (cutD ds lo hi) := by
  unfold cutV cutD
  rw [dats_len h]
  exact dats_take _ (dats_drop _ h)
theorem mb_cut {te : TE} {tl th : TO} {lo hi : Option Int} {ds : List PyData} (a : MkB K b G0 σ te (.tuple ds)) (pl : PartIs σ tl lo) (ph : PartIs σ th hi) : MkB K b G0 σ (tSl (rSlA K) te tl th) (.tuple (cutD ds lo hi)) := fun G s bag Q q =>
  a G s bag _ fun v G1 s1 bag1 h => pl _ _ (ph _ _ (by
    have h' : Dat K (del G1 b) v (.tuple ds) := h
    cases h' with
    | @tup p xs _ sq all =>
      have len := dats_len all
      refine ⟨p, xs, rfl, sqt_out sq, fun whole => q _ G1 s1 bag1 ?_, fun _ p2 np => q _ _ (s1.trans (same_upd1 np)) (bag1.same (same_upd1 np)) (.tup (.inl (.inl (dt_at (But.free (But.refl b G1) bag1 np).1 upd_same))) (DatAll.but (But.of (same_upd1 np)) (dats_cut lo hi all)))⟩
      have e : cutD ds lo hi = ds := by
        unfold cutD
        rw [← len, whole.1, whole.2, List.drop_zero]
        exact List.take_of_length_le (by omega)
      rw [e]
      exact h))
theorem mb_cat {ta tb : TE} {ds es : List PyData} (a : MkB K b G0 σ ta (.tuple ds)) (r : MkB K b G0 σ tb (.tuple es)) (few : ds.length + es.length ≤ 100000) : MkB K b G0 σ (tOp (rCatA K) ta tb) (.tuple (ds ++ es)) := fun G s bag Q q =>
  a G s bag _ fun v G1 s1 bag1 h => r G1 (s.trans s1) bag1 _ fun u G2 s2 bag2 h2 => by
    have h' : Dat K (del G2 b) v (.tuple ds) := h.but (But.of s2)
    have h2' : Dat K (del G2 b) u (.tuple es) := h2
    have s12 := s1.trans s2
    cases h' with
    | @tup p xs _ sq all =>
      cases h2' with
      | @tup p2 ys _ sq2 all2 =>
        have l1 := dats_len all
        have l2 := dats_len all2
        refine ⟨p, p2, xs, ys, rfl, rfl, sqt_out sq, sqt_out sq2, len_line (by omega), fun e => q _ G2 s12 bag2 ?_, fun _ e => q _ G2 s12 bag2 ?_, fun _ _ p3 np => q _ _ (s12.trans (same_upd1 np)) (bag2.same (same_upd1 np)) ?_⟩
        · have : ds = [] := List.eq_nil_of_length_eq_zero (by rw [← l1, e]; rfl)
          rw [this]
          exact .tup sq2 all2
        · have : es = [] := List.eq_nil_of_length_eq_zero (by rw [← l2, e]; rfl)
          rw [this, List.append_nil]
          exact .tup sq all
        · exact .tup (.inl (.inl (dt_at (But.free (But.refl b G2) bag2 np).1 upd_same))) (DatAll.but (But.of (same_upd1 np)) (dats_app all all2))
theorem dats_rev {H : Hp} : ∀ {vs : List V} {ds : List PyData}, DatAll K H vs ds → DatAll K H vs.reverse ds.reverse
  | _, _, .nil => .nil
  | _, _, .cons a r => by
    rw [List.reverse_cons, List.reverse_cons]
    exact dats_app (dats_rev r) (.cons a .nil)
theorem mb_rev {te : TE} {ds : List PyData} (a : MkB K b G0 σ te (.tuple ds)) : MkB K b G0 σ (tRevT K te) (.tuple ds.reverse) := fun G s bag Q q =>
  a G s bag _ fun v G1 s1 bag1 h => by
    have h' : Dat K (del G1 b) v (.tuple ds) := h
    cases h' with
    | @tup p xs _ sq all =>
      exact ⟨p, xs, rfl, sqt_out sq, fun p2 np => q _ _ (s1.trans (same_upd1 np)) (bag1.same (same_upd1 np)) (.tup (.inl (.inl (dt_at (But.free (But.refl b G1) bag1 np).1 upd_same))) (DatAll.but (But.of (same_upd1 np)) (dats_rev all)))⟩
theorem mb_non : MkB K b G0 σ (tC .non) .none := fun G _ bag Q q => q _ G (Same.refl G) bag .non
end
end K29

namespace K29
open PySem PySem.Spec PyProof.Rows L2 Vd Evl
theorem wgts_rev : ∀ ds : List PyData, wgts ds.reverse = wgts ds
  | [] => rfl
  | d :: ds => by
    rw [List.reverse_cons, wgts_app, wgts_rev ds]
    show wgts ds + (Vd.wgt d + 2 + 0) = Vd.wgt d + 2 + wgts ds
    omega
theorem next_ret {te : TE} {D0 : Ends} {σ : L2.St} {G : Hp} (h : te σ G D0.rt) : tNext { D0 with nx := tRet te D0 } σ G := h
theorem op_do {r : R2} {ta tb : TE} {σ : L2.St} {G : Hp} {Q : VK} (h : ta σ G fun x H1 => tb σ H1 fun y H2 => r x y H2 Q) : tOp r ta tb σ G Q := h
section
variable {K : PySem.W.Frag} {b : Addr} {W D n : Nat} {G0 G : Hp} {σ : L2.St} {ta : TA}
def GoodF (K : PySem.W.Frag) (b : Addr) (W D : Nat) (G : Hp) (v : V) : Prop := ∃ d, Dt K b G v d ∧ Fit W D d
theorem GoodF.but {G G' : Hp} {v : V} (s : But b G G') (h : GoodF K b W D G v) : GoodF K b W D G' v := by
  obtain ⟨d, x, f⟩ := h
  exact ⟨d, x.but s, f⟩
def MkFs (K : PySem.W.Frag) (b : Addr) (W D : Nat) (G0 : Hp) (σ : L2.St) (ta : TA) (n : Nat) : Prop := ∀ G, Same G0 G → BagAt G b → ∀ Q : List V → Hp → Prop, (∀ vs G', Same G G' → BagAt G' b → vs.length = n → (∀ v ∈ vs, GoodF K b W D G' v) → Q vs G') → ta σ G Q
theorem mfs_nil : MkFs K b W D G0 σ tNil 0 := fun G _ bag Q q => q [] G (Same.refl G) bag rfl fun v m => nomatch m
theorem mfs_cons {te : TE} {ta : TA} {d : PyData} (a : MkB K b G0 σ te d) (f : Fit W D d) (r : MkFs K b W D G0 σ ta n) : MkFs K b W D G0 σ (tCons te ta) (n + 1) := fun G s bag Q q =>
  a G s bag _ fun v G1 s1 bag1 h1 => r G1 (s.trans s1) bag1 _ fun vs G2 s2 bag2 len each => q (v :: vs) G2 (s1.trans s2) bag2 (by rw [List.length_cons, len]) fun u m => by
    cases m with
    | head => exact ⟨d, h1.but (But.of s2), f⟩
    | tail _ m => exact each u m
theorem fs_lst {Q : VK} (h : MkFs K b W D G σ ta n) (bag : BagAt G b) (few : n ≤ 1000)
    (q : ∀ xs G' p, Same G G' → BagAt G' b → xs.length = n → (∀ v ∈ xs, GoodF K b W D G' v) → G' p = none → Q (.ref p) (upd G' p (.lst xs))) : tLst ta σ G Q :=
  h G (Same.refl G) bag _ fun xs G' s bag' len each => ⟨line1000 (by omega), fun p np => q xs G' p s bag' len each np⟩
theorem fs_set {u : TS} {E : Ends} {i : Nat} (h : MkFs K b W D G σ ta n) (bag : BagAt G b) (few : n ≤ 1000)
    (q : ∀ xs G' p, Same G G' → BagAt G' b → xs.length = n → (∀ v ∈ xs, GoodF K b W D G' v) → G' p = none → u E (σ.set i (some (.ref p))) (upd G' p (.lst xs))) : tSeq (tAsg (tLst ta) (gName i)) u E σ G :=
  fs_lst (Q := fun v H1 => u E (σ.set i (some v)) H1) h bag few q
/-- list(t) -/
theorem mb_list {te : TE} {ds : List PyData} (a : MkB K b G0 σ te (.tuple ds)) :
    MkB K b G0 σ (tCB (fun xs H Q => ∃ p ys, xs = [.ref p] ∧ (SqL K H p ys ∨ SqT K H p ys) ∧ ∀ l, H l = none → Q (.ref l) (upd H l (.lst ys))) (tCons te tNil)) (.list ds) := fun G s bag Q q =>
  a G s bag _ fun v G1 s1 bag1 h => by
    have h' : Dat K (del G1 b) v (.tuple ds) := h
    cases h' with
    | @tup p xs _ sq all =>
      exact ⟨p, xs, rfl, .inr (sqt_out sq), fun l nl => q _ _ (s1.trans (same_upd1 nl)) (bag1.same (same_upd1 nl)) (.lst (.inl (.inl (dt_at (But.free (But.refl b G1) bag1 nl).1 upd_same))) (DatAll.but (But.of (same_upd1 nl)) all))⟩
theorem cat_do {v u : V} {ds es : List PyData} {Q : VK} (h : Dt K b G v (.tuple ds)) (h2 : Dt K b G u (.tuple es)) (bag : BagAt G b) (few : ds.length + es.length ≤ 100000) (q : ∀ x G', Same G G' → BagAt G' b → Dt K b G' x (.tuple (ds ++ es)) → Q x G') : rCatA K v u G Q := by
  have h' : Dat K (del G b) v (.tuple ds) := h
  have h2' : Dat K (del G b) u (.tuple es) := h2
  cases h' with
  | @tup p xs _ sq all =>
    cases h2' with
    | @tup p2 ys _ sq2 all2 =>
      have l1 := dats_len all
      have l2 := dats_len all2
      refine ⟨p, p2, xs, ys, rfl, rfl, sqt_out sq, sqt_out sq2, len_line (by omega), fun e => q _ G (Same.refl G) bag ?_, fun _ e => q _ G (Same.refl G) bag ?_, fun _ _ p3 np => q _ _ (same_upd1 np) (bag.same (same_upd1 np)) ?_⟩
      · have : ds = [] := List.eq_nil_of_length_eq_zero (by rw [← l1, e]; rfl)
        rw [this]
        exact .tup sq2 all2
      · have : es = [] := List.eq_nil_of_length_eq_zero (by rw [← l2, e]; rfl)
        rw [this, List.append_nil]
        exact .tup sq all
      · exact .tup (.inl (.inl (dt_at (But.free (But.refl b G) bag np).1 upd_same))) (DatAll.but (But.of (same_upd1 np)) (dats_app all all2))
theorem int_fit {i : Int} (h : i.natAbs ≤ 1000000) : Fit 20000 0 (.int i) := by
  have lt : i.natAbs < 2 ^ 400 := Nat.lt_of_le_of_lt h (by decide)
  exact ⟨decide_eq_true (Nat.lt_of_lt_of_le (PySem.Flt.log2_lt_of (by decide) lt) (by decide)), rfl, decide_eq_true lt, (by decide : (1921 : Nat) ≤ 20000), Nat.le_refl _⟩
theorem twice_fit {x y : Str} (h : plain (.str x) = true) (e : y.cps.toList = x.cps.toList ++ x.cps.toList) : Fit 20000 0 (.str y) := by
  simp only [plain, Bool.and_eq_true] at h
  have le : x.length ≤ 20 := of_decide_eq_true h.1
  have len : y.length ≤ 40 := by
    have := congrArg List.length e
    rw [List.length_append] at this
    have e1 : y.length = y.cps.toList.length := by simp [Str.length]
    have e2 : x.length = x.cps.toList.length := by simp [Str.length]
    omega
  have al : (y.cps.toList.all fun c => decide (c < 0x110000)) = true := by rw [e, List.all_append, h.2]; rfl
  refine ⟨txt_nice al, ?_, rfl, ?_, Nat.le_refl _⟩
  · simp only [K29.txt, Bool.and_eq_true]
    exact ⟨decide_eq_true (by omega), al⟩
  · show 10 * y.length + 2 ≤ 20000
    omega
end
abbrev sBent : Stmt := topS 27
abbrev bentN : List Str := ["bag", "thing", "deep", "items", "key", "value", "menu", "way", "at", "some"]
theorem scBent : FnScope bentN ["bag", "thing", "deep"] (defScope sBent) := ⟨rfl, rfl, rfl, by decide +kernel, rfl, by decide +kernel, by decide +kernel⟩
section
variable {P : Program} {w : World} {K : PySem.W.Frag} {mg : Str → Option Value} {base : Heap}
def bentW (n W : Nat) : Nat := (2 * n + 2) * W + 20000 + 10 * n
def spBent (K : PySem.W.Frag) (n : Nat) : Sp := fun vs H Q _ => ∃ (b : Addr) (v : V) (d : PyData) (W D : Nat), vs = [.ref b, v, .int n] ∧ BagAt H b ∧ Dt K b H v d ∧ Plain W D d ∧ W ≤ 40000 ∧
  ∀ H' v' d', But b H H' → BagAt H' b → Dt K b H' v' d' → Fit (bentW n W) (D + 4 + n) d' → Q v' H'
theorem bentW_low (n W : Nat) : 2 * W + 20000 ≤ bentW n W := by
  unfold bentW
  have : 2 * W ≤ (2 * n + 2) * W := Nat.mul_le_mul_right W (by omega)
  omega
theorem bentW_step (n W : Nat) : bentW (n + 1) W = 2 * W + bentW n W + 10 := by
  unfold bentW
  have : (2 * (n + 1) + 2) * W = (2 * n + 2) * W + 2 * W := by
    rw [← Nat.add_mul]
    congr 1
  omega
theorem neq_int {i j : Int} (h : i ≠ j) : decide (V.int i = V.int j) = false := decide_eq_false fun z => h (by injection z)
section
variable {f fT fS fO fI : Addr} {fd fdT fdS fdO fdI : FuncData} (F : At K mg "_law_bent" sBent ["bag", "thing", "deep"] f fd) (T : At K mg "_law_take" sTake ["bag", "many"] fT fdT) (S : At K mg "_law_some" sSome ["bag", "things"] fS fdS)
  (O : At K mg "_law_odd" sOdd ["bag"] fO fdO) (Ii : At K mg "_law_is_int" sLInt ["thing"] fI fdI) (mn : mg "isinstance" = none) (mi : mg "int" = none) (mb : mg "bool" = none) (mt : mg "tuple" = none) (ml : mg "len" = none) (ms : mg "str" = none) (md : mg "dict" = none) (mL : mg "list" = none)
  (ki : KT K "int" wideInt) (kb : KT K "bool" isBool) (kt : KT K "tuple" anyTup) (ks : KT K "str" isStr) (kd : KT K "dict" isDict)
include F T S O Ii mn mi mb mt ml ms md mL ki kb kt ks kd
theorem ok_bent : ∀ n : Nat, FnOk P w K mg base CX0 (4 + n) f fd ["bag", "thing", "deep"] (spBent K n) := by
  have GT : FnOk P w K mg base CX0 1 fT fdT ["bag", "many"] spTake := ok_take T.fn mi
  have GS : FnOk P w K mg base CX0 2 fS fdS ["bag", "things"] (spSome K) := ok_some S T mi ml
  have GO : FnOk P w K mg base CX0 3 fO fdO ["bag"] (spOdd K) := ok_odd O T S mi ml
  have GI : FnOk P w K mg base CX0 1 fI fdI ["thing"] (spIs K isInt) := ok_lint Ii mn mi mb ki kb
  have bi : bootBuiltins "isinstance" = some (.builtin "isinstance") := PyProof.Rows.boot_isinstance
  have bt : bootBuiltins "tuple" = some (.type "tuple") := by decide +kernel
  have bs : bootBuiltins "str" = some (.type "str") := by decide +kernel
  have bd : bootBuiltins "dict" = some (.type "dict") := by decide +kernel
  have bl : bootBuiltins "list" = some (.type "list") := by decide +kernel
  have nd := scBent.nd
  intro n
  induction n with
  | zero =>
    refine F.fn.ok scBent (fun vs H Q E h => ?_) (fun cdv A outer s H vs Q E hr h => ?_)
    · obtain ⟨b, v, d, W, D, rfl, _⟩ := h
      rfl
    · obtain ⟨b, v, d, W, D, rfl, bag, dt, pl, low, fin⟩ := h
      have hr1 : Room 1 _ := hr.mono (by decide)
      refine ⟨_, pss_cons (ps_if (PW.pt (pw_or (pt_cmpR op_eq (pv 2) pe_int (nomark _)) (pw_or1 (pt_cmpR op_eq (pe_call GT hr1 (by rfl) T.g T.fn.kp T.b .nil pass0 (pa_cons (pv 0) (pa_cons pe_int pa_nil))) pe_int (nomark _)))))
        (pss_one (ps_ret (pe_call GO hr (by rfl) O.g O.fn.kp O.b .nil pass0 (pa_cons (pv 0) pa_nil)))) pss_nil) pss_never, ?_⟩
      refine ⟨_, rfl, rfl, _, rfl, ?_⟩
      have e : decide (V.int ((0 : Nat) : Int) = V.int 0) = true := decide_eq_true rfl
      rw [e]
      refine iteT (iteT ⟨_, rfl, b, rfl, bag, fun G1 x dx but1 bag1 it od => ?_⟩)
      exact fin G1 x dx but1 bag1 (odd_dt bag it) (od.more (by have := bentW_low 0 W; omega) (by omega))
  | succ n ih =>
    refine F.fn.ok scBent (fun vs H Q E h => ?_) (fun cdv A outer s H vs Q E hr h => ?_)
    · obtain ⟨b, v, d, W, D, rfl, _⟩ := h
      rfl
    · obtain ⟨b, v, d, W, D, rfl, bag, dt, pl, low, fin⟩ := h
      have hr1 : Room 1 _ := hr.mono (by show 1 ≤ 4 + n; omega)
      have hr2 : Room 2 _ := hr.mono (by show 2 ≤ 4 + n; omega)
      have hr3 : Room 3 _ := hr.mono (by show 3 ≤ 4 + n; omega)
      have lowW := bentW_low (n + 1) W
      have fin2 : ∀ G' x dx, But b H G' → BagAt G' b → Dt K b G' x dx → Fit (2 * W + 20000) (D + 3) dx → Q x G' := fun G' x dx s bg t f => fin G' x dx s bg t (f.more (by omega) (by omega))
      refine ⟨_, pss_cons (ps_if (PW.pt (pw_or (pt_cmpR op_eq (pv 2) pe_int (nomark _)) (pw_or1 (pt_cmpR op_eq (pe_call GT hr1 (by rfl) T.g T.fn.kp T.b .nil pass0 (pa_cons (pv 0) (pa_cons pe_int pa_nil))) pe_int (nomark _)))))
        (pss_one (ps_ret (pe_call GO hr3 (by rfl) O.g O.fn.kp O.b .nil pass0 (pa_cons (pv 0) pa_nil)))) pss_nil)
        (pss_cons (ps_if (pt_val (pe_call GI hr1 (by rfl) Ii.g Ii.fn.kp Ii.b .nil pass0 (pa_cons (pv 1) pa_nil)))
          (pss_one (ps_ret (pe_call GS hr2 (by rfl) S.g S.fn.kp S.b .nil pass0 (pa_cons (pv 0) (pa_cons (pe_lst (pa_cons (pe_op op_add (pv 1) pe_int) (pa_cons (pe_op op_sub (pv 1) pe_int) (pa_cons pe_int (pa_cons (pe_un un_neg (pv 1))
            (pa_cons (pe_cmpR op_eq (pv 1) pe_int (nomark _)) (pa_cons pe_non (pa_cons (pe_op op_mul pe_int (pv 1)) (pa_cons (pe_callTy call_str_int (by rfl) ms bs (pa_cons (pv 1) pa_nil)) pa_nil))))))))) pa_nil))))) pss_nil)
        (pss_cons (ps_if (PW.pt (pw_and (pt_val (pe_callB call_isi (by rfl) mn bi (pa_cons (pv 1) (pa_cons (pe_bltn (by rfl) md bd (v := .ty "dict") rfl) pa_nil)))) (pw_and1 (pt_cmpR (op_neG hr.units) (pv 1) pe_dnewK (nomark _))))) pss_never pss_nil)
        (pss_cons (ps_if (PW.pt (pw_or (pt_not (pt_val (pe_callB call_isi (by rfl) mn bi (pa_cons (pv 1) (pa_cons (pe_bltn (by rfl) mt bt (v := .ty "tuple") rfl) pa_nil))))) (pw_or1 (pt_cmpR (op_eqNilT hr.units) (pv 1) (pe_tup pa_nil) (nomark _)))))
          (pss_one (ps_ret (pe_call GS hr2 (by rfl) S.g S.fn.kp S.b .nil pass0 (pa_cons (pv 0) (pa_cons (pe_lst (pa_cons (pe_call GO hr3 (by rfl) O.g O.fn.kp O.b .nil pass0 (pa_cons (pv 0) pa_nil))
            (pa_cons (pe_ifExp (pt_val (pe_callB call_isi (by rfl) mn bi (pa_cons (pv 1) (pa_cons (pe_bltn (by rfl) ms bs (v := .ty "str") rfl) pa_nil)))) (pe_op op_strTwice (pv 1) pe_int) (pe_call GO hr3 (by rfl) O.g O.fn.kp O.b .nil pass0 (pa_cons (pv 0) pa_nil))) pa_nil))) pa_nil))))) pss_nil)
        (pss_cons (ps_par (i := 7) (j := 8) (by rfl) nd rfl rfl (by decide) rfl rfl (pa_cons (pe_call GT hr1 (by rfl) T.g T.fn.kp T.b .nil pass0 (pa_cons (pv 0) (pa_cons pe_int pa_nil)))
            (pa_cons (pe_call GT hr1 (by rfl) T.g T.fn.kp T.b .nil pass0 (pa_cons (pv 0) (pa_cons (pe_callB call_len_seq (by rfl) ml PySem.boot_len (pa_cons (pv 1) pa_nil)) pa_nil))) pa_nil)) (by rfl))
        (pss_cons (ps_if (pt_cmpR op_eq (pv 7) pe_int (nomark _))
          (pss_cons (ps_set (i := 9) nd rfl (Or.inl rfl) (pe_lst (pa_cons (pe_callTy call_list_of (by rfl) mL bl (pa_cons (pv 1) pa_nil)) (pa_cons (pe_revT (pv 1))
            (pa_cons (pe_op op_catA (pe_slice sl_tupA (pv 1) po_none (po_some (pv 8))) (pe_slice sl_tupA (pv 1) (po_some (pe_op op_add (pv 8) pe_int)) po_none))
            (pa_cons (pe_op op_catA (pe_slice sl_tupA (pv 1) po_none (po_some (pe_op op_add (pv 8) pe_int))) (pe_slice sl_tupA (pv 1) (po_some (pv 8)) po_none)) pa_nil))))))
          (pss_one (ps_ret (pe_call GS hr2 (by rfl) S.g S.fn.kp S.b .nil pass0 (pa_cons (pv 0) (pa_cons (pe_op op_cat (pv 9) (pe_lst (pa_cons (pe_op op_catA (pv 1) (pe_tup (pa_cons pe_non pa_nil))) pa_nil))) pa_nil)))))) pss_nil)
        (pss_one (ps_ret (pe_op op_catA (pe_op op_catA (pe_slice sl_tupA (pv 1) po_none (po_some (pv 8))) (pe_tup (pa_cons (pe_call ih hr (by rfl) F.g F.fn.kp F.b .nil pass0 (pa_cons (pv 0) (pa_cons (pe_ix ix_tup (pv 1) (pv 8) (fun _ _ => rfl)) (pa_cons (pe_op op_sub (pv 2) pe_int) pa_nil)))) pa_nil)))
          (pe_slice sl_tupA (pv 1) (po_some (pe_op op_add (pv 8) pe_int)) po_none))))))))), ?_⟩
      refine ⟨_, rfl, rfl, _, rfl, ?_⟩
      rw [neq_int (by omega)]
      refine iteF ⟨_, rfl, b, 9, rfl, bag, by decide, by decide, fun G1 v1 but1 bag1 _ _ => ⟨rfl, _, rfl, ite2 (fun _ => ?_) (fun _ => ?_)⟩⟩
      · exact ⟨_, rfl, b, rfl, bag1, fun G2 x dx but2 bag2 it od => fin2 G2 x dx (but1.trans but2) bag2 (odd_dt bag1 it) (od.more (by omega) (by omega))⟩
      have dt1 := dt.but but1
      refine ⟨_, rfl, v, d, rfl, dt1.dat, fun G2 s2 => ⟨_, rfl, ?_⟩⟩
      have bag2 := bag1.same s2
      have dt2 := dt1.but (But.of s2)
      have but2 := but1.trans (But.of s2)
      obtain ⟨tD, tyD, kD⟩ := kd.of dt2.dat
      obtain ⟨tT, tyT, kT⟩ := kt.of dt2.dat
      cases d with
      | none => cases pl.is
      | bool _ => cases pl.is
      | list _ => cases pl.is
      | dict _ => cases pl.is
      | int i =>
        have h' : Dat K (del G2 b) v (.int i) := dt2
        cases h'
        have le : i.natAbs ≤ 1000 := of_decide_eq_true pl.is
        have lt : i.natAbs < 2 ^ 400 := Nat.lt_of_le_of_lt le (by decide)
        refine iteT ⟨_, rfl, _, rfl, i, 1, rfl, rfl, _, rfl, i, 1, rfl, rfl, _, rfl, i, rfl, _, rfl, rfl, _, rfl, 2, i, rfl, rfl, .inl ⟨by decide, by decide⟩, _, rfl, i, rfl, Nat.lt_of_lt_of_le (PySem.Flt.log2_lt_of (by decide) lt) (by decide),
          len_line (by show 8 ≤ 100000; decide), fun p np => ?_⟩
        have pb := (But.free (But.refl b G2) bag2 np).1
        refine ⟨b, p, _, rfl, bag2.new np, .inl (SqL.of upd_same), pb, by show 0 < 8; decide, by show 8 < 1073741824; decide, fun G3 x mem but3 bag3 => ?_⟩
        have s3 := (but2.new np).trans but3
        have go : isFlat x = true → Fit 20000 0 (flatD x) → Q x G3 := fun fl f => fin2 G3 x _ s3 bag3 (flat_dt fl) (f.more (by omega) (by omega))
        simp only [List.mem_cons, List.not_mem_nil, or_false] at mem
        rcases mem with e | e | e | e | e | e | e | e <;> subst e
        · exact go rfl (int_fit (by omega))
        · exact go rfl (int_fit (by omega))
        · exact go rfl (int_fit (by decide))
        · exact go rfl (int_fit (by omega))
        · exact go rfl ⟨rfl, rfl, rfl, (by decide : (5 : Nat) ≤ 20000), Nat.le_refl _⟩
        · exact go rfl ⟨rfl, rfl, rfl, (by decide : (4 : Nat) ≤ 20000), Nat.le_refl _⟩
        · exact go rfl (int_fit (by omega))
        · exact go rfl (int_str le)
      | str x =>
        have h' : Dat K (del G2 b) v (.str x) := dt2
        cases h'
        obtain ⟨tS, tyS, kS⟩ := ks.of dt2.dat
        refine iteF ⟨_, rfl, .str x, .ty "dict", tD, .type "dict", _, rfl, .ty "dict", tyD, kD, _, rfl, iteF (iteF ?_)⟩
        refine ⟨_, rfl, .str x, .ty "tuple", tT, .type "tuple", _, rfl, .ty "tuple", tyT, kT, _, rfl, iteT (iteT ?_)⟩
        refine ⟨_, rfl, _, rfl, b, rfl, bag2, fun G3 y dy but3 bag3 it od => ?_⟩
        have dty := odd_dt bag2 it
        refine ⟨_, rfl, .str x, .ty "str", tS, .type "str", _, rfl, .ty "str", ?_, kS, _, rfl, ?_⟩
        · cases tyS with
          | base h => cases h; exact .base (.str x)
        have px := pl.is
        have few : x.length ≤ 20 := by
          simp only [plain, Bool.and_eq_true] at px
          exact of_decide_eq_true px.1
        refine iteT ⟨_, rfl, x, rfl, rfl, by omega, fun z2 e2 => ⟨len_line (by show 2 ≤ 100000; decide), fun p np => ?_⟩⟩
        have pb := (But.free (But.refl b G3) bag3 np).1
        refine ⟨b, p, _, rfl, bag3.new np, .inl (SqL.of upd_same), pb, by show 0 < 2; decide, by show 2 < 1073741824; decide, fun G4 u mem but4 bag4 => ?_⟩
        have s4 := ((but2.trans but3).new np).trans but4
        simp only [List.mem_cons, List.not_mem_nil, or_false] at mem
        rcases mem with e | e <;> subst e
        · exact fin2 G4 _ dy s4 bag4 (dty.but (((But.refl b G3).new np).trans but4)) (od.more (by omega) (by omega))
        · exact fin2 G4 _ (.str z2) s4 bag4 (.str z2) ((twice_fit px e2).more (by omega) (by omega))
      | tuple ds =>
        have h' : Dat K (del G2 b) v (.tuple ds) := dt2
        cases h' with
        | @tup a xs _ sq all =>
        have sq2 := sqt_out sq
        have len := dats_len all
        obtain ⟨tS, tyS, kS⟩ := ks.of dt2.dat
        refine iteF ⟨_, rfl, .ref a, .ty "dict", tD, .type "dict", _, rfl, .ty "dict", tyD, kD, _, rfl, iteF (iteF ?_)⟩
        refine ⟨_, rfl, .ref a, .ty "tuple", tT, .type "tuple", _, rfl, .ty "tuple", tyT, kT, _, rfl, iteF ?_⟩
        refine ⟨_, rfl, Nat.zero_le _, fun p0 np0 => ⟨a, p0, xs, rfl, rfl, sqt_up (same_upd1 np0) sq2, SqT.of upd_same, _, rfl, ?_⟩⟩
        have s3 : Same G2 (upd G2 p0 (.tup [])) := same_upd1 np0
        have bag3 := bag2.same s3
        have dt3 := dt2.but (But.of s3)
        have but3 := but2.trans (But.of s3)
        generalize upd G2 p0 (.tup []) = G3 at s3 bag3 dt3 but3
        have wds : wgts ds + 4 ≤ W := pl.wgt
        have dsl : ds.length ≤ wgts ds := len_wgts ds
        have dd : PyData.depthAll ds + 1 ≤ D := pl.deep
        have part : ∀ e ∈ ds, Vd.nice e = true ∧ K29.txt e = true ∧ K29.small e = true ∧ e.depth ≤ D := fun e m => by
          have q := (pl.part m).fit
          exact ⟨q.nice, q.txt, q.small, q.deep⟩
        cases xs with
        | nil =>
          refine iteT ?_
          refine ⟨_, rfl, _, rfl, b, rfl, bag3, fun G4 y dy but4 bag4 it od => ?_⟩
          have dty := odd_dt bag3 it
          have tyS' : TyX K G4 (.ref a) (.type "tuple") := tyx_t (sqt_out (sqt_up (del_but ((But.of s3).trans but4)) sq))
          refine ⟨_, rfl, .ref a, .ty "str", _, .type "str", _, rfl, .ty "str", tyS', ks.tup ds, _, rfl, iteF ?_⟩
          refine ⟨_, rfl, b, rfl, bag4, fun G5 z dz but5 bag5 it2 od2 => ⟨len_line (by show 2 ≤ 100000; decide), fun p np => ?_⟩⟩
          have dtz := odd_dt bag4 it2
          have pb := (But.free (But.refl b G5) bag5 np).1
          refine ⟨b, p, _, rfl, bag5.new np, .inl (SqL.of upd_same), pb, by show 0 < 2; decide, by show 2 < 1073741824; decide, fun G6 u mem but6 bag6 => ?_⟩
          have s6 := (((but3.trans but4).trans but5).new np).trans but6
          simp only [List.mem_cons, List.not_mem_nil, or_false] at mem
          rcases mem with e | e <;> subst e
          · exact fin2 G6 _ dy s6 bag6 (dty.but ((but5.new np).trans but6)) (od.more (by omega) (by omega))
          · exact fin2 G6 _ dz s6 bag6 (dtz.but (((But.refl b G5).new np).trans but6)) (od2.more (by omega) (by omega))
        | cons x0 xs0 =>
          refine iteF ?_
          have pos : 0 < ds.length := by
            rw [← len]
            exact Nat.succ_pos _
          refine ⟨_, rfl, b, 9, rfl, bag3, by decide, by decide, fun G4 w4 but4 bag4 _ _ => ?_⟩
          have sq4 : SqT K G4 a (x0 :: xs0) := sqt_out (sqt_up (del_but ((But.of s3).trans but4)) sq)
          refine ⟨_, rfl, _, rfl, a, _, rfl, .inr sq4, b, _, rfl, bag4, by rw [len]; omega, by rw [len]; omega, fun G5 at5 but5 bag5 a0 a1 => ⟨_, _, rfl, ?_⟩⟩
          obtain ⟨k, rfl⟩ := Int.eq_ofNat_of_zero_le a0
          have k1 : k < ds.length := by
            rw [len] at a1
            omega
          have cut2 : ∀ l1 h1 l2 h2 : Option Int, (cutD ds l1 h1).length + (cutD ds l2 h2).length ≤ 100000 := fun l1 h1 l2 h2 => by
            have := cut_len ds l1 h1
            have := cut_len ds l2 h2
            omega
          have catF : ∀ l1 h1 l2 h2 : Option Int, Fit (2 * W + 20000) (D + 3) (.tuple (cutD ds l1 h1 ++ cutD ds l2 h2)) := fun l1 h1 l2 h2 => by
            refine (Fit.tupW (W := 2 * W + 20000) (D := D) (fun e m => ?_) ?_).more (Nat.le_refl _) (by omega)
            · rcases List.mem_append.mp m with m | m
              · exact part e (cut_mem m)
              · exact part e (cut_mem m)
            · rw [wgts_app]
              have := cut_wgts ds l1 h1
              have := cut_wgts ds l2 h2
              omega
          have dt5 := (dt3.but but4).but but5
          have s5 := (but3.trans but4).trans but5
          have bag5' := bag5
          refine ⟨_, rfl, rfl, _, rfl, ite2 (fun _ => ?_) (fun _ => ?_)⟩
          · have thing_ : ∀ {σ : L2.St} {G : Hp}, But b G5 G → σ[1]? = some (some (.ref a)) → MkB K b G σ (tVar 1) (.tuple ds) := fun s e => mb_var e (dt5.but s)
            have first_ : MkFs K b (2 * W + 20000) (D + 3) G5 ([some (.ref b), some (.ref a), some (.int ((n + 1 : Nat) : Int)), none, none, none, none, some (.int w4), some (.int k), none] : L2.St) _ 4 :=
              mfs_cons (mb_list (thing_ (But.refl b G5) rfl)) ⟨pl.fit.nice, rfl, rfl, by show wgts ds + 2 ≤ _; omega, by show PyData.depthAll ds + 1 ≤ _; omega⟩
              (mfs_cons (mb_rev (thing_ (But.refl b G5) rfl)) ((Fit.tupW (W := 2 * W + 20000) (D := D) (fun e m => part e (List.mem_reverse.mp m)) (by rw [wgts_rev]; omega)).more (Nat.le_refl _) (by omega))
              (mfs_cons (mb_cat (mb_cut (thing_ (But.refl b G5) rfl) part_none (part_var (i := 8) rfl)) (mb_cut (thing_ (But.refl b G5) rfl) (part_add (i := 8) rfl) part_none) (cut2 _ _ _ _)) (catF _ _ _ _)
              (mfs_cons (mb_cat (mb_cut (thing_ (But.refl b G5) rfl) part_none (part_add (i := 8) rfl)) (mb_cut (thing_ (But.refl b G5) rfl) (part_var (i := 8) rfl) part_none) (cut2 _ _ _ _)) (catF _ _ _ _)
              mfs_nil)))
            refine fs_set first_ bag5 (by decide) fun ys G6 p s6 bag6 len6 good6 np => ?_
            have s7 : Same G6 (upd G6 p (.lst ys)) := same_upd1 np
            have at_p : upd G6 p (.lst ys) p = some (.lst ys) := upd_same
            have bag7 := bag6.same s7
            have good7 : ∀ v ∈ ys, GoodF K b (2 * W + 20000) (D + 3) (upd G6 p (.lst ys)) v := fun v m => (good6 v m).but (But.of s7)
            have but7 := But.of (b := b) (s6.trans s7)
            generalize upd G6 p (.lst ys) = G7 at s7 at_p bag7 good7 but7
            refine ⟨_, rfl, _, rfl, ?_⟩
            have second_ : MkFs K b (2 * W + 20000) (D + 3) G7 ([some (.ref b), some (.ref a), some (.int ((n + 1 : Nat) : Int)), none, none, none, none, some (.int w4), some (.int k), some (.ref p)] : L2.St) _ 1 :=
              mfs_cons (mb_cat (thing_ but7 rfl) (mb_tup (mbs_cons mb_non mbs_nil) (Nat.le_of_ble_eq_true rfl)) (by show ds.length + 1 ≤ 100000; omega))
                ((Fit.tupW (W := 2 * W + 20000) (D := D) (fun e m => by
                  rcases List.mem_append.mp m with m | m
                  · exact part e m
                  · cases m with
                    | head => exact ⟨rfl, rfl, rfl, Nat.zero_le _⟩
                    | tail _ no => cases no) (by rw [wgts_app]; show wgts ds + (4 + 2 + 0) + 4 ≤ _; omega)).more (Nat.le_refl _) (by omega)) mfs_nil
            refine fs_lst second_ bag7 (by decide) fun zs G8 p2 s8 bag8 len8 good8 np2 => ?_
            have s9 : Same G8 (upd G8 p2 (.lst zs)) := same_upd1 np2
            refine ⟨p, p2, ys, zs, rfl, rfl, s9 _ _ (s8 _ _ at_p), upd_same, line1000 (by omega), fun p3 np3 => ?_⟩
            have s10 : Same (upd G8 p2 (.lst zs)) (upd (upd G8 p2 (.lst zs)) p3 (.lst (ys ++ zs))) := same_upd1 np3
            have pb3 := (But.free (But.refl b _) (bag8.same s9) np3).1
            refine ⟨b, p3, _, rfl, (bag8.same s9).same s10, .inl (SqL.of upd_same), pb3, by simp only [List.length_append]; omega, by simp only [List.length_append]; omega, fun G11 x mem but11 bag11 => ?_⟩
            have g : GoodF K b (2 * W + 20000) (D + 3) G11 x := by
              rcases List.mem_append.mp mem with m | m
              · exact (good7 x m).but ((But.of (s8.trans (s9.trans s10))).trans but11)
              · exact (good8 x m).but ((But.of (s9.trans s10)).trans but11)
            obtain ⟨dx, dtx, fx⟩ := g
            exact fin2 G11 x dx (s5.trans (but7.trans ((But.of (s8.trans (s9.trans s10))).trans but11))) bag11 dtx fx
          · have thing_ : ∀ {σ : L2.St} {G : Hp}, But b G5 G → σ[1]? = some (some (.ref a)) → MkB K b G σ (tVar 1) (.tuple ds) := fun s e => mb_var e (dt5.but s)
            refine next_ret (op_do (op_do ?_))
            refine mb_cut (thing_ (But.refl b G5) rfl) part_none (part_var (i := 8) rfl) G5 (Same.refl G5) bag5 _ fun c1 G6 s6 bag6 dtc1 => ?_
            have sq6 : SqT K G6 a (x0 :: xs0) := sqt_out (sqt_up (del_but ((((But.of s3).trans but4).trans but5).trans (But.of s6))) sq)
            have all6 : DatAll K (del G6 b) (x0 :: xs0) ds := DatAll.up (del_but ((((But.of s3).trans but4).trans but5).trans (But.of s6))) all
            have kx : k < (x0 :: xs0).length := by omega
            obtain ⟨dc, ec, dtc⟩ := dats_at all6 k _ (List.getElem?_eq_getElem kx)
            have mc : dc ∈ ds := List.mem_of_getElem? ec
            refine ⟨_, rfl, _, rfl, _, rfl, a, _, (k : Int), (x0 :: xs0)[k], rfl, rfl, sq6, atI_nat (List.getElem?_eq_getElem kx), _, rfl, _, _, rfl, rfl, b, (x0 :: xs0)[k], dc, W, D, ?_, bag6, dtc, pl.part mc, low, fun G7 u du but7 bag7 dtu fu => ⟨len_line (by show 1 ≤ 100000; decide), fun p np => ?_⟩⟩
            · have e : (((n + 1 : Nat) : Int) - 1) = (n : Int) := by omega
              show [V.ref b, (x0 :: xs0)[k], V.int (((n + 1 : Nat) : Int) - 1)] = _
              rw [e]
            have pb := (But.free (But.refl b G7) bag7 np).1
            have s8 : Same G7 (upd G7 p (.tup [u])) := same_upd1 np
            have bag8 := bag7.same s8
            have dt8 : Dt K b (upd G7 p (.tup [u])) (.ref p) (.tuple [du]) := .tup (.inl (.inl (dt_at pb upd_same))) (.cons (dtu.but (But.of s8)) .nil)
            have dtc8 := (dtc1.but but7).but (But.of s8)
            have but8 := (But.of (b := b) s6).trans (but7.trans (But.of s8))
            refine cat_do dtc8 dt8 bag8 ?_ fun y G9 s9 bag9 dty => ?_
            · have := cut_len ds none (some (k : Int))
              show _ + 1 ≤ 100000
              omega
            refine mb_cut (thing_ (but8.trans (But.of s9)) rfl) (part_add (i := 8) rfl) part_none G9 (Same.refl G9) bag9 _ fun c2 G10 s10 bag10 dtc2 => ?_
            refine cat_do (dty.but (But.of s10)) dtc2 bag10 ?_ fun z G11 s11 bag11 dtz => ?_
            · have := cut_len ds none (some (k : Int))
              have := cut_len ds (some ((k : Int) + 1)) none
              rw [List.length_append]
              show _ + 1 + _ ≤ 100000
              omega
            refine fin G11 z _ (s5.trans (but8.trans (But.of (s9.trans (s10.trans s11))))) bag11 dtz ?_
            refine (Fit.tupW (W := bentW (n + 1) W) (D := D + 4 + n) (fun e m => ?_) ?_)
            · have up : ∀ e ∈ ds, Vd.nice e = true ∧ K29.txt e = true ∧ K29.small e = true ∧ e.depth ≤ D + 4 + n := fun e m => by
                obtain ⟨q1, q2, q3, q4⟩ := part e m
                exact ⟨q1, q2, q3, by omega⟩
              rcases List.mem_append.mp m with m | m
              · rcases List.mem_append.mp m with m | m
                · exact up e (cut_mem m)
                · cases m with
                  | head => exact ⟨fu.nice, fu.txt, fu.small, fu.deep⟩
                  | tail _ no => cases no
              · exact up e (cut_mem m)
            · rw [wgts_app, wgts_app, bentW_step]
              have := cut_wgts ds none (some (k : Int))
              have := cut_wgts ds (some ((k : Int) + 1)) none
              have := fu.wgt
              show _ + (Vd.wgt du + 2 + 0) + _ + 4 ≤ _
              omega
end
end
end K29

namespace K29
open PySem PySem.Spec PyProof.Rows L2 Vd Evl
/-! ### what is joined -/
theorem nodup_sub_len {α : Type} [DecidableEq α] : ∀ {l m : List α}, l.Nodup → (∀ x ∈ l, x ∈ m) → l.length ≤ m.length
  | [], m, _, _ => Nat.zero_le _
  | a :: l, m, n, s => by
    obtain ⟨na, nl⟩ := List.nodup_cons.mp n
    have ma := s a (.head _)
    have ih := nodup_sub_len (m := m.erase a) nl fun x hx => (List.mem_erase_of_ne (fun e => na (by rw [← e]; exact hx))).mpr (s x (.tail _ hx))
    rw [List.length_erase_of_mem ma] at ih
    have := List.length_pos_of_mem ma
    rw [List.length_cons]
    omega
theorem nodup_full {α : Type} [DecidableEq α] {l m : List α} (n : l.Nodup) (s : ∀ x ∈ l, x ∈ m) (e : m.length ≤ l.length) : ∀ y ∈ m, y ∈ l := fun y my => by
  by_cases h : y ∈ l
  · exact h
  · have := nodup_sub_len (l := y :: l) (m := m) (List.nodup_cons.mpr ⟨h, n⟩) fun x hx => by
      cases hx with
      | head => exact my
      | tail _ hx => exact s x hx
    rw [List.length_cons] at this
    omega
def closedL (bs : List Belt) (l : List Str) : Prop := ∀ m ∈ bs, (m.1 ∈ l ↔ m.2.1 ∈ l)
theorem reach_in {bs : List Belt} {l : List Str} {x y : Str} (c : closedL bs l) (hx : x ∈ l) (r : Reach bs x y) : y ∈ l := by
  induction r with
  | here => exact hx
  | ahead _ m e ih => exact (c _ m).mp (e ▸ ih)
  | back _ m e ih => exact (c _ m).mpr (e ▸ ih)
structure Met (ns : List Str) (bs : List Belt) (x : Str) (met : List Str) : Prop where
  nd : met.Nodup
  sub : ∀ y ∈ met, y ∈ ns
  reach : ∀ y ∈ met, Reach bs x y
  has : x ∈ met
theorem Met.add {ns : List Str} {bs : List Belt} {x y : Str} {met : List Str} (h : Met ns bs x met) (no : y ∉ met) (s : y ∈ ns) (r : Reach bs x y) : Met ns bs x (met ++ [y]) := by
  refine ⟨?_, fun z m => ?_, fun z m => ?_, List.mem_append_left _ h.has⟩
  · refine List.nodup_append.mpr ⟨h.nd, by simp, fun a ha b hb e => ?_⟩
    have : b = y := by simpa using hb
    exact no (this ▸ e ▸ ha)
  · rcases List.mem_append.mp m with m | m
    · exact h.sub z m
    · have : z = y := by simpa using m
      exact this ▸ s
  · rcases List.mem_append.mp m with m | m
    · exact h.reach z m
    · have : z = y := by simpa using m
      exact this ▸ r
/-- whether all is met, once what is met is closed -/
theorem Met.all {ns : List Str} {bs : List Belt} {x : Str} {met : List Str} (h : Met ns bs x met) (c : closedL bs met) : (∀ y ∈ ns, y ∈ met) ↔ ∀ y ∈ ns, Reach bs x y :=
  ⟨fun a y m => h.reach y (a y m), fun a y m => reach_in c h.has (a y m)⟩
theorem inV_strs (y : Str) : ∀ l : List Str, inV (.str y) (l.map V.str) = decide (y ∈ l)
  | [] => rfl
  | z :: l => by
    show (eqV (.str z) (.str y) || inV (.str y) (l.map V.str)) = _
    rw [inV_strs y l]
    by_cases h : z = y
    · subst h
      simp [eqV]
    · have : ¬ y = z := fun e => h e.symm
      simp [eqV, h, this]
theorem flat_strs (l : List Str) : (l.map V.str).all flatV = true := by
  rw [List.all_map]
  exact List.all_eq_true.mpr fun _ _ => rfl
/-! #### one belt of a pass -/
def addM (met : List Str) (a b : Str) : List Str := if a ∈ met ∧ b ∉ met then met ++ [b] else met
/-- the pass from m0 on, j belts behind -/
def Pass (bs : List Belt) (m0 : List Str) (j : Nat) (met : List Str) : Prop := (met = m0 ∧ ∀ m ∈ bs.take j, (m.1 ∈ m0 ↔ m.2.1 ∈ m0)) ∨ (m0.length + 1 ≤ met.length ∧ ¬ closedL bs m0)
theorem addM_len (met : List Str) (a b : Str) : met.length ≤ (addM met a b).length := by
  unfold addM
  split
  · rw [List.length_append]; omega
  · exact Nat.le_refl _
theorem Pass.step {bs : List Belt} {m0 met : List Str} {j : Nat} {m : Belt} (h : Pass bs m0 j met) (e : bs[j]? = some m) : Pass bs m0 (j + 1) (addM (addM met m.1 m.2.1) m.2.1 m.1) := by
  have mem : m ∈ bs := List.mem_of_getElem? e
  rcases h with ⟨rfl, all⟩ | ⟨len, no⟩
  · by_cases c : (m.1 ∈ met ↔ m.2.1 ∈ met)
    · have e1 : addM met m.1 m.2.1 = met := if_neg fun z => z.2 (c.mp z.1)
      have e2 : addM met m.2.1 m.1 = met := if_neg fun z => z.2 (c.mpr z.1)
      rw [e1, e2]
      refine .inl ⟨rfl, fun m' h' => ?_⟩
      rw [List.take_succ, e] at h'
      rcases List.mem_append.mp h' with h' | h'
      · exact all m' h'
      · have : m' = m := by simpa using h'
        exact this ▸ c
    · refine .inr ⟨?_, fun z => c (z m mem)⟩
      by_cases a1 : m.1 ∈ met ∧ m.2.1 ∉ met
      · have e1 : addM met m.1 m.2.1 = met ++ [m.2.1] := if_pos a1
        have := addM_len (addM met m.1 m.2.1) m.2.1 m.1
        rw [e1, List.length_append] at this
        rw [e1]
        exact this
      · have e1 : addM met m.1 m.2.1 = met := if_neg a1
        rw [e1]
        have a2 : m.2.1 ∈ met ∧ m.1 ∉ met := by
          by_cases p : m.1 ∈ met
          · by_cases q : m.2.1 ∈ met
            · exact absurd ⟨fun _ => q, fun _ => p⟩ c
            · exact absurd ⟨p, q⟩ a1
          · by_cases q : m.2.1 ∈ met
            · exact ⟨q, p⟩
            · exact absurd ⟨fun z => absurd z p, fun z => absurd z q⟩ c
        have e2 : addM met m.2.1 m.1 = met ++ [m.1] := if_pos a2
        rw [e2, List.length_append]
        exact Nat.le_refl _
  · exact .inr ⟨Nat.le_trans len (Nat.le_trans (addM_len _ _ _) (addM_len _ _ _)), no⟩
section
variable {P : Program} {w : World} {K : PySem.W.Frag} {mg : Str → Option Value} {base : Heap}
def spJoin (K : PySem.W.Frag) : Sp := fun vs H Q _ => ∃ (a c : Addr) (ns : List Str) (bv : List V) (bs : List Belt) (x : Str), vs = [.ref a, .ref c, .str x] ∧ SqT K H a (ns.map V.str) ∧ SqT K H c bv ∧ DatAll K H bv (bs.map beltD) ∧ ns.Nodup ∧
  (∀ m ∈ bs, m.1 ∈ ns ∧ m.2.1 ∈ ns) ∧ x ∈ ns ∧ ns.length ≤ 100 ∧ bs.length ≤ 100 ∧ ∀ H' r, Same H H' → (r = true ↔ ∀ y ∈ ns, Reach bs x y) → Q (.bl r) H'
theorem belt_at {H : Hp} : ∀ {bv : List V} {bs : List Belt} (j : Nat) (v : V), DatAll K H bv (bs.map beltD) → bv[j]? = some v → ∃ (m : Belt) (t : Addr), bs[j]? = some m ∧ v = .ref t ∧ SqT K H t [.str m.1, .str m.2.1, .int m.2.2.1, .int m.2.2.2]
  | [], bs, j, v, _, e => by simp at e
  | u :: bv, [], j, v, h, e => by cases h
  | u :: bv, m :: bs, 0, v, h, e => by
    cases h with
    | cons a r =>
      have e' : u = v := by simpa using e
      subst e'
      cases a with
      | @tup t xs _ sq all =>
        cases all with
        | cons h1 r1 =>
          cases h1
          cases r1 with
          | cons h2 r2 =>
            cases h2
            cases r2 with
            | cons h3 r3 =>
              cases h3
              cases r3 with
              | cons h4 r4 =>
                cases h4
                cases r4
                exact ⟨m, t, rfl, rfl, sq⟩
  | u :: bv, m :: bs, j + 1, v, h, e => by
    cases h with
    | cons a r => exact belt_at j v r (by simpa using e)
theorem same_set {H G : Hp} {p : Addr} {o : HO} (s : Same H G) (n : H p = none) : Same H (upd G p o) := fun b x e => by
  rw [upd_ne (ne_of_none e n)]
  exact s _ _ e
abbrev sLJoin : Stmt := topS 33
abbrev ljN : List Str := ["names", "belts", "name", "met", "turn", "start", "end", "room", "first", "one"]
theorem scLJoin : FnScope ljN ["names", "belts", "name"] (defScope sLJoin) := ⟨rfl, rfl, rfl, by decide +kernel, rfl, by decide +kernel, by decide +kernel⟩
theorem ok_ljoin {f : Addr} {fd : FuncData} (F : At K mg "_law_are_joined" sLJoin ["names", "belts", "name"] f fd) (ml : mg "len" = none) (mr : mg "range" = none) : FnOk P w K mg base CX0 1 f fd ["names", "belts", "name"] (spJoin K) := by
  refine F.fn.ok scLJoin (fun vs H Q E h => ?_) (fun cdv A outer s H vs Q E hr h => ?_)
  · obtain ⟨a, c, ns, bv, bs, x, rfl, _⟩ := h
    rfl
  · obtain ⟨a, c, ns, bv, bs, x, rfl, sqa, sqc, dats, nodup, ends, mx, few, fewB, fin⟩ := h
    have nd := scLJoin.nd
    refine ⟨_, pss_cons (ps_set (i := 3) nd rfl (Or.inr rfl) (pe_lst (pa_cons (pv 2) pa_nil)))
      (pss_cons (ps_for PassesOwn.never rfl (pi_range1 (by rfl) mr (pa_cons (pe_callB call_len_seq (by rfl) ml PySem.boot_len (pa_cons (pv 0) pa_nil)) pa_nil)) (pg_name (i := 4) nd rfl (Or.inl rfl))
        (pss_one (ps_for PassesOwn.never rfl (pi_tup (pv 1)) (pg_tup rfl (pgs_cons (pg_name (i := 5) nd rfl (Or.inl rfl)) (pgs_cons (pg_name (i := 6) nd rfl (Or.inl rfl)) (pgs_cons (pg_name (i := 7) nd rfl (Or.inl rfl)) (pgs_cons (pg_name (i := 8) nd rfl (Or.inl rfl)) pgs_nil)))))
          (pss_cut (ps_if (PW.pt (pw_and (pt_cmpR op_in_seq (pv 5) (pv 3) (by rfl)) (pw_and1 (pt_cmpR op_notIn_seq (pv 6) (pv 3) (by rfl))))) (pss_one (ps_expr (pe_bm PySem.F.plainAttrs_list PySem.F.slot_list_append PySem.F.type_list_append mt_append (pv 3) (pa_cons (pv 6) pa_nil)))) pss_nil)
          (pss_one (ps_if (PW.pt (pw_and (pt_cmpR op_in_seq (pv 6) (pv 3) (by rfl)) (pw_and1 (pt_cmpR op_notIn_seq (pv 5) (pv 3) (by rfl))))) (pss_one (ps_expr (pe_bm PySem.F.plainAttrs_list PySem.F.slot_list_append PySem.F.type_list_append mt_append (pv 3) (pa_cons (pv 5) pa_nil)))) pss_nil))))))
      (pss_one (ps_ret (pe_cmpR (op_eqNil hr.units) (pe_lc (own := [("one", 9)]) (g := gName 9) rfl nd (pi_tup (pv 0)) (blkOk_by (N := ljN) (sc := defScope sLJoin) (by decide +kernel))
          (fun _ _ _ _ _ => pg_name (i := 9) nd rfl (Or.inl rfl)) (fun _ _ _ _ _ => pts_one (pt_cmpR (r := rIn K true) op_notIn_seq (pv 9) (pv 3) (by rfl))) (fun _ _ _ _ _ => pv 9)) (pe_lst pa_nil) (nomark _))))), ?_⟩
    refine ⟨_, rfl, len_line (by show 1 ≤ 100000; decide), fun q nq => ?_⟩
    have s0 : Same H (upd H q (.lst [.str x])) := same_new nq
    have at0 : upd H q (.lst [.str x]) q = some (.lst ([x].map V.str)) := upd_same
    refine ⟨_, rfl, a, _, rfl, .inr (sqt_up s0 sqa), (ns.map V.str).length, rfl, by omega, ?_, ?_⟩
    · rw [List.length_map]
      omega
    have blen : bv.length = bs.length := by rw [dats_len dats, List.length_map]
    rw [Int.toNat_natCast]
    refine for_range (lo := 0) (n := (ns.map V.str).length) (fun i σ' G => ∃ (met : List Str) (v4 v5 v6 v7 v8 : Option V), σ' = ([some (.ref a), some (.ref c), some (.str x), some (.ref q), v4, v5, v6, v7, v8, none] : L2.St) ∧ Same H G ∧ G q = some (.lst (met.map V.str)) ∧
      Met ns bs x met ∧ (closedL bs met ∨ i + 1 ≤ met.length)) ⟨[x], none, none, none, none, none, rfl, s0, at0, ⟨by simp, fun y m => ?_, fun y m => ?_, by simp⟩, .inr (Nat.le_refl _)⟩ ?_ ?_
    · have : y = x := by simpa using m
      exact this ▸ mx
    · have : y = x := by simpa using m
      exact this ▸ .here
    · rintro i _ G lt ⟨m0, v4, v5, v6, v7, v8, rfl, s1, at_q, met0, ci⟩
      refine ⟨_, rfl, c, rfl, ⟨_, sqt_up s1 sqc⟩, ?_⟩
      refine for_tup (K := K) (a := c) (xs := bv) (fun j σ' G => ∃ (met : List Str) (v4 v5 v6 v7 v8 : Option V), σ' = ([some (.ref a), some (.ref c), some (.str x), some (.ref q), v4, v5, v6, v7, v8, none] : L2.St) ∧ Same H G ∧ G q = some (.lst (met.map V.str)) ∧
        Met ns bs x met ∧ Pass bs m0 j met) ⟨m0, _, _, _, _, _, rfl, s1, at_q, met0, .inl ⟨rfl, fun m z => by simp at z⟩⟩ (fun j σ' G _ ⟨_, _, _, _, _, _, _, s, _⟩ => sqt_up s sqc) ?_ ?_
      · rintro j v _ G2 at_j ⟨met, u4, u5, u6, u7, u8, rfl, s2, at2, mt, ps⟩
        obtain ⟨m, t, em, rfl, sqt⟩ := belt_at j v dats at_j
        obtain ⟨e1, e2⟩ := ends m (List.mem_of_getElem? em)
        have mm : m ∈ bs := List.mem_of_getElem? em
        refine ⟨t, _, rfl, sqt_up s2 sqt, rfl, _, _, rfl, _, _, rfl, _, _, rfl, _, _, rfl, rfl, ?_⟩
        refine ⟨fun σ' G => σ' = ([some (.ref a), some (.ref c), some (.str x), some (.ref q), u4, some (.str m.1), some (.str m.2.1), some (.int m.2.2.1), some (.int m.2.2.2), none] : L2.St) ∧ Same H G ∧ G q = some (.lst ((addM met m.1 m.2.1).map V.str)) ∧ Met ns bs x (addM met m.1 m.2.1), ?_, ?_⟩
        · refine ⟨_, rfl, _, rfl, q, _, rfl, .inl (SqL.of at2), rfl, flat_strs met, _, rfl, ite2 (fun h1 => ?_) (fun h1 => ?_)⟩
          · have h1' : m.1 ∈ met := by
              have : inV (.str m.1) (met.map V.str) = true := h1
              rw [inV_strs] at this
              exact of_decide_eq_true this
            refine ⟨_, rfl, _, rfl, q, _, rfl, .inl (SqL.of at2), rfl, flat_strs met, _, rfl, ite2 (fun h2 => ?_) (fun h2 => ?_)⟩
            · have h2' : m.2.1 ∉ met := by
                have : (!inV (.str m.2.1) (met.map V.str)) = true := h2
                rw [inV_strs] at this
                simpa using this
              have ea : addM met m.1 m.2.1 = met ++ [m.2.1] := if_pos ⟨h1', h2'⟩
              have len := nodup_sub_len mt.nd mt.sub
              refine ⟨_, rfl, .inl ⟨rfl, _, SqL.of at2⟩, _, rfl, q, _, .str m.2.1, rfl, rfl, at2, small1000 (by rw [List.length_map]; omega), ?_⟩
              rw [ea]
              exact ⟨rfl, same_set s2 nq, by rw [upd_same, List.map_append]; rfl, mt.add h2' e2 (.ahead (mt.reach _ h1') mm rfl)⟩
            · have ea : addM met m.1 m.2.1 = met := if_neg fun z => h2 (by
                show (!inV (.str m.2.1) (met.map V.str)) = true
                rw [inV_strs]
                simpa using z.2)
              rw [ea]
              exact ⟨rfl, s2, at2, mt⟩
          · have ea : addM met m.1 m.2.1 = met := if_neg fun z => h1 (by
              show inV (.str m.1) (met.map V.str) = true
              rw [inV_strs]
              simpa using z.1)
            rw [ea]
            exact ⟨rfl, s2, at2, mt⟩
        rintro _ G3 ⟨rfl, s3, at3, mt3⟩
        have ps3 := ps.step em
        generalize addM met m.1 m.2.1 = met3 at at3 mt3 ps3
        have fin3 : ∀ G met4, met4 = addM met3 m.2.1 m.1 → Same H G → G q = some (.lst (met4.map V.str)) → Met ns bs x met4 → ∃ (met : List Str) (v4 v5 v6 v7 v8 : Option V), ([some (.ref a), some (.ref c), some (.str x), some (.ref q), u4, some (.str m.1), some (.str m.2.1), some (.int m.2.2.1), some (.int m.2.2.2), none] : L2.St) = [some (.ref a), some (.ref c), some (.str x), some (.ref q), v4, v5, v6, v7, v8, none] ∧ Same H G ∧ G q = some (.lst (met.map V.str)) ∧
            Met ns bs x met ∧ Pass bs m0 (j + 1) met := fun G met4 e s at4 mt4 => ⟨met4, _, _, _, _, _, rfl, s, at4, mt4, e ▸ ps3⟩
        refine ⟨_, rfl, _, rfl, q, _, rfl, .inl (SqL.of at3), rfl, flat_strs met3, _, rfl, ite2 (fun h1 => ?_) (fun h1 => ?_)⟩
        · have h1' : m.2.1 ∈ met3 := by
            have : inV (.str m.2.1) (met3.map V.str) = true := h1
            rw [inV_strs] at this
            exact of_decide_eq_true this
          refine ⟨_, rfl, _, rfl, q, _, rfl, .inl (SqL.of at3), rfl, flat_strs met3, _, rfl, ite2 (fun h2 => ?_) (fun h2 => ?_)⟩
          · have h2' : m.1 ∉ met3 := by
              have : (!inV (.str m.1) (met3.map V.str)) = true := h2
              rw [inV_strs] at this
              simpa using this
            have ea : addM met3 m.2.1 m.1 = met3 ++ [m.1] := if_pos ⟨h1', h2'⟩
            have len := nodup_sub_len mt3.nd mt3.sub
            refine ⟨_, rfl, .inl ⟨rfl, _, SqL.of at3⟩, _, rfl, q, _, .str m.1, rfl, rfl, at3, small1000 (by rw [List.length_map]; omega), ?_⟩
            exact fin3 _ _ ea.symm (same_set s3 nq) (by rw [upd_same, List.map_append]; rfl) (mt3.add h2' e1 (.back (mt3.reach _ h1') mm rfl))
          · have ea : addM met3 m.2.1 m.1 = met3 := if_neg fun z => h2 (by
              show (!inV (.str m.1) (met3.map V.str)) = true
              rw [inV_strs]
              simpa using z.2)
            exact fin3 _ _ ea.symm s3 at3 mt3
        · have ea : addM met3 m.2.1 m.1 = met3 := if_neg fun z => h1 (by
            show inV (.str m.2.1) (met3.map V.str) = true
            rw [inV_strs]
            simpa using z.1)
          exact fin3 _ _ ea.symm s3 at3 mt3
      · rintro _ G2 ⟨met, u4, u5, u6, u7, u8, rfl, s2, at2, mt, ps⟩
        refine ⟨met, _, _, _, _, _, rfl, s2, at2, mt, ?_⟩
        rw [blen, Pass, List.take_length] at ps
        rcases ps with ⟨rfl, all⟩ | ⟨len, no⟩
        · exact .inl all
        · rcases ci with ci | ci
          · exact absurd ci no
          · exact .inr (by omega)
    · rintro _ G ⟨met, v4, v5, v6, v7, v8, rfl, s1, at_q, mt, ci⟩
      have cl : closedL bs met := by
        rcases ci with ci | ci
        · exact ci
        · have := nodup_sub_len mt.nd mt.sub
          rw [List.length_map] at ci
          omega
      refine ⟨_, rfl, a, rfl, ⟨_, sqt_up s1 sqa⟩, fun D nD => ?_⟩
      have D0 : H D = none := s1.free nD
      have qD : q ≠ D := ne_of_none at_q nD
      refine lc_tup (K := K) (a := a) (xs := ns.map V.str) (fun i G => ∃ bad : List Str, Same H G ∧ G q = some (.lst (met.map V.str)) ∧ G D = some (.lst (bad.map V.str)) ∧ bad.length ≤ i ∧ (bad = [] ↔ ∀ y ∈ ns.take i, y ∈ met)) ?_ (fun i G _ ⟨_, s, _⟩ => sqt_up s sqa) ?_ ?_
      · exact ⟨[], s1.trans (same_new nD), by rw [upd_ne qD]; exact at_q, upd_same, Nat.le_refl _, ⟨fun _ y m => by simp at m, fun _ => rfl⟩⟩
      · rintro i v G2 at_i ⟨bad, s2, at2, at_D, len, iff⟩
        rw [List.getElem?_map] at at_i
        obtain ⟨y, ey, rfl⟩ := Option.map_eq_some_iff.mp at_i
        have tk : ns.take (i + 1) = ns.take i ++ [y] := by
          rw [List.take_succ, ey]
          rfl
        have lt : i < ns.length := (List.getElem?_eq_some_iff.mp ey).1
        refine ⟨rfl, _, rfl, _, rfl, q, _, rfl, .inl (SqL.of at2), rfl, flat_strs met, _, rfl, ite2 (fun h => ?_) (fun h => ?_)⟩
        · have h' : y ∉ met := by
            have : (!inV (.str y) (met.map V.str)) = true := h
            rw [inV_strs] at this
            simpa using this
          refine ⟨_, rfl, _, at_D, small1000 (by rw [List.length_map]; omega), bad ++ [y], same_set s2 D0, by rw [upd_ne qD]; exact at2, by rw [upd_same, List.map_append]; rfl, by rw [List.length_append]; exact Nat.succ_le_succ len, ?_⟩
          refine ⟨fun z => by simp at z, fun z => absurd (z y (by rw [tk]; simp)) h'⟩
        · have h' : y ∈ met := by
            have : ¬ (!inV (.str y) (met.map V.str)) = true := h
            rw [inV_strs] at this
            simpa using this
          refine ⟨bad, s2, at2, at_D, Nat.le_succ_of_le len, iff.trans ?_⟩
          rw [tk]
          refine ⟨fun z u m => ?_, fun z u m => z u (List.mem_append_left _ m)⟩
          rcases List.mem_append.mp m with m | m
          · exact z u m
          · have : u = y := by simpa using m
            exact this ▸ h'
      · rintro G2 ⟨bad, s2, at2, at_D, len, iff⟩
        refine ⟨Nat.zero_le _, fun p np => ⟨D, p, bad.map V.str, rfl, rfl, SqL.of (by rw [upd_ne (ne_of_none at_D np)]; exact at_D), SqL.of upd_same, ?_⟩⟩
        refine fin _ _ (s2.trans (same_new np)) ?_
        rw [List.length_map, List.take_length] at iff
        rw [← mt.all cl, ← iff]
        cases bad with
        | nil => exact ⟨fun _ => rfl, fun _ => rfl⟩
        | cons u us => exact ⟨fun z => by simp at z, fun z => by cases z⟩
end
end K29

namespace Vd
open PySem PySem.Spec PyProof.Rows L2
section
variable {X : Cx}
/-- name = {k: v for ..} on one line, the name a local -/
theorem ps_setDc {i : Nat} {y : Str} {py : Pos} {kx vx tg iter : Expr} {ifs : List Expr} {scope : Scope} {own : List (Str × Nat)} {pos spos : Pos} {wi : TI} {g : TG} {tt : TT} {tk tv : TE} (hc : X.calm = true) (hN : X.N.Nodup) (hy : X.N[i]? = some y) (hyl : X.env.scope.names.lookup y = some .local)
    (hsw : swapsWith (.DictComp kx vx [⟨tg, iter, ifs, 0⟩] scope pos) (some (.Name y py)) spos.line X.env = pure true) (hi : PI X tg iter wi) (ok : BlkOk X.N X.env.scope scope own)
    (hg : ∀ (s : Shared) (H : Hp) (C : Addr) (cl : List (Str × Addr)) (fp : List Addr), PG (X.blk s H scope (compEnvC scope cl C X.env) fp) tg g) (ht : ∀ (s : Shared) (H : Hp) (C : Addr) (cl : List (Str × Addr)) (fp : List Addr), PTs (X.blk s H scope (compEnvC scope cl C X.env) fp) ifs tt)
    (hk : ∀ (s : Shared) (H : Hp) (C : Addr) (cl : List (Str × Addr)) (fp : List Addr), PE (X.blk s H scope (compEnvC scope cl C X.env) fp) kx tk)
    (he : ∀ (s : Shared) (H : Hp) (C : Addr) (cl : List (Str × Addr)) (fp : List Addr), PE (X.blk s H scope (compEnvC scope cl C X.env) fp) vx tv) (hs : ∀ x, foldedSetIterable iter X.env x = pure x := by intro _; rfl) :
    PS X (.Assign [.Name y py] (.DictComp kx vx [⟨tg, iter, ifs, 0⟩] scope pos) spos) (tAsg (tDc wi g tt tk tv (own.map (·.2))) (gName i)) := by
  refine ⟨fun pins s σ H D I h => ?_⟩
  rw [exec_Assign_Name_used _ _ _ _ hsw]
  refine wpAny_bind (wpAny_standAt (wpAny_bind ?_))
  show wpAny _ X.A (do let _ ← comprehension (.DictComp kx vx [⟨tg, iter, ifs, 0⟩] scope pos) scope X.env (firstIterPos [⟨tg, iter, ifs, 0⟩] pos) newDict false (eval iter X.env) (some (assign (.Name y py) X.env))) _ _ s
  have h : tDc wi g tt tk tv (own.map (·.2)) σ H (fun x H1 => gName i x σ H1 D.nx) := h
  refine wpAny_bind (thn (dc_core (Qf := fun _ s' => SP X pins D .next s') hc hN I hi ok hg ht hk he hs h fun L C s' m H' I' q hn f => ?_) fun _ s' hq => wpAny_pure (wpAny_pure hq))
  show wpAny _ _ (assign (.Name y py) X.env (.ref L)) _ _ _
  refine wpAny_assign_Name (store_ok2 (v := V.ref L) I' hN hy (.inl hyl) rfl (fun s2 I2 ⟨a, sb, ha⟩ => ?_) (.inr hyl))
  obtain ⟨f0, f1, f2, f3, f4, f5⟩ := f
  have haC : C ≠ a := by
    rcases ha with z | z
    · rw [z]; exact f1
    · exact fun e => f4 y a z e.symm
  refine ⟨m, hn.sameBut sb haC, fun h3 sb3 => ?_⟩
  exact ⟨_, H', I2.turned (t' := s2.toks) (fun b o hb e => (sb3.2 b hb).trans e) f0 f1 f3 f4 f5, q⟩
theorem sw_trueD {kx vx : Expr} {gs : List Comprehension} {scope : Scope} {pos py : Pos} {y : Str} {l : Nat} {env : Env} (hk : env.scope.kind = .function) (hy : env.scope.names.lookup y = some .local) (hl : (py.line == pos.line) = true)
    (ha : (scope.names.any fun (n, k) => n == y && (k == .local || k == .cell)) = false) : swapsWith (.DictComp kx vx gs scope pos) (some (.Name y py)) l env = pure true := by
  have ky : env.kindOf y = some .local := hy
  have hb : env.blockKind = .function := by unfold Env.blockKind; rw [hk]; rfl
  unfold swapsWith
  simp only [hb, ky, ha, Expr.pos, hl]
  rfl
end
end Vd

namespace K29
open PySem PySem.Spec PyProof.Rows L2 Vd Evl
abbrev sJoin : Stmt := topS 14
abbrev jN : List Str := ["names", "belts", "name", "beside", "belt", "reached", "waiting", "here", "other", "one"]
theorem scJoin : FnScope jN ["names", "belts", "name"] (defScope sJoin) := ⟨rfl, rfl, rfl, by decide +kernel, rfl, by decide +kernel, by decide +kernel⟩

/-! ### a dict by names -/
def byN (l : List Str) (g : Str → V) : List (Key × V) := l.map fun n => (Sum.inr n, g n)
theorem valV_byN (g : Str → V) (y : Str) : ∀ l : List Str, valV (byN l g) (Sum.inr y) = if y ∈ l then some (g y) else none
  | [] => rfl
  | n :: l => by
    by_cases h : n = y
    · subst h
      show valV ((Sum.inr n, g n) :: byN l g) _ = _
      rw [valV_pos rfl, if_pos (List.mem_cons_self ..)]
    · show valV ((Sum.inr n, g n) :: byN l g) _ = _
      rw [valV_neg (fun z => h (by injection z)), valV_byN g y l]
      have : (y ∈ n :: l) ↔ y ∈ l := ⟨fun z => by
        cases z with
        | head => exact absurd rfl h
        | tail _ z => exact z, fun z => .tail _ z⟩
      by_cases m : y ∈ l
      · rw [if_pos m, if_pos (this.mpr m)]
      · rw [if_neg m, if_neg fun z => m (this.mp z)]
theorem put_byN {g : Str → V} {y : Str} {l : List Str} (h : y ∉ l) : putK (byN l g) (Sum.inr y) (g y) = byN (l ++ [y]) g := by
  rw [putK_new _ (by rw [valV_byN, if_neg h])]
  unfold byN
  rw [List.map_append]
  rfl
theorem byN_congr {g g' : Str → V} : ∀ {l : List Str}, (∀ n ∈ l, g n = g' n) → byN l g = byN l g'
  | [], _ => rfl
  | n :: l, h => by
    show (Sum.inr n, g n) :: byN l g = (Sum.inr n, g' n) :: byN l g'
    rw [h n (.head _), byN_congr fun m hm => h m (.tail _ hm)]
/-- the dict of the lists beside each name -/
structure Bes (H G : Hp) (d : Addr) (ns : List Str) (f : Str → Addr) (L : Str → List Str) : Prop where
  same : Same H G
  d0 : H d = none
  dict : G d = some (.dK (byN ns fun n => .ref (f n)))
  at_ : ∀ n ∈ ns, G (f n) = some (.lst ((L n).map V.str))
  new : ∀ n ∈ ns, H (f n) = none
  inj : ∀ n ∈ ns, ∀ m ∈ ns, f n = f m → n = m
section
variable {H G : Hp} {d : Addr} {ns : List Str} {f : Str → Addr} {L : Str → List Str}
theorem Bes.fd (h : Bes H G d ns f L) {n : Str} (m : n ∈ ns) : f n ≠ d := fun e => by
  have a := h.at_ n m
  rw [e, h.dict] at a
  cases a
theorem Bes.app (h : Bes H G d ns f L) {n y : Str} (m : n ∈ ns) : Bes H (upd G (f n) (.lst ((L n ++ [y]).map V.str))) d ns f (fun z => if z = n then L n ++ [y] else L z) := by
  refine ⟨same_set h.same (h.new n m), h.d0, by rw [upd_ne (h.fd m).symm]; exact h.dict, fun k mk => ?_, h.new, h.inj⟩
  by_cases e : k = n
  · subst e
    rw [upd_same, if_pos rfl]
  · rw [upd_ne fun z => e (h.inj k mk n m z), if_neg e]
    exact h.at_ k mk
/-- other new things may change -/
theorem Bes.off (h : Bes H G d ns f L) {p : Addr} {o : HO} (p0 : H p = none) (pd : p ≠ d) (pf : ∀ n ∈ ns, p ≠ f n) : Bes H (upd G p o) d ns f L :=
  ⟨same_set h.same p0, h.d0, by rw [upd_ne pd.symm]; exact h.dict, fun n m => by rw [upd_ne (pf n m).symm]; exact h.at_ n m, h.new, h.inj⟩
theorem Bes.fresh (h : Bes H G d ns f L) {p : Addr} (np : G p = none) : H p = none ∧ p ≠ d ∧ ∀ n ∈ ns, p ≠ f n :=
  ⟨h.same.free np, (ne_of_none h.dict np).symm, fun n m => (ne_of_none (h.at_ n m) np).symm⟩
end
def beside_ (bs : List Belt) (n y : Str) : Prop := ∃ m ∈ bs, (m.1 = n ∧ m.2.1 = y) ∨ (m.2.1 = n ∧ m.1 = y)
theorem take_get {α : Type} {l : List α} {j : Nat} {x y : α} (e : l[j]? = some x) : y ∈ l.take (j + 1) ↔ y ∈ l.take j ∨ y = x := by
  rw [List.take_succ, e]
  simp
section
variable {P : Program} {w : World} {K : PySem.W.Frag} {mg : Str → Option Value} {base : Heap}
theorem ok_join {f : Addr} {fd : FuncData} (F : At K mg "is_joined" sJoin ["names", "belts", "name"] f fd) (ml : mg "len" = none) : FnOk P w K mg base CX0 1 f fd ["names", "belts", "name"] (spJoin K) := by
  refine F.fn.ok scJoin (fun vs H Q E h => ?_) (fun cdv A outer s H vs Q E hr h => ?_)
  · obtain ⟨a, c, ns, bv, bs, x, rfl, _⟩ := h
    rfl
  · obtain ⟨a, c, ns, bv, bs, x, rfl, sqa, sqc, dats, nodup, ends, mx, few, fewB, fin⟩ := h
    have nd := scJoin.nd
    have hu := hu_of hr
    refine ⟨_, pss_cut (ps_setDc (i := 3) (own := [("one", 9)]) (g := gName 9) (tt := tYes) rfl nd rfl rfl (sw_trueD rfl rfl rfl (by decide +kernel)) (pi_tup (pv 0)) (blkOk_by (N := jN) (sc := defScope sJoin) (by decide +kernel))
          (fun _ _ _ _ _ => pg_name (i := 9) nd rfl (Or.inl rfl)) (fun _ _ _ _ _ => pts_nil) (fun _ _ _ _ _ => pv 9) (fun _ _ _ _ _ => pe_lst pa_nil))
      (pss_cut (ps_for PassesOwn.never rfl (pi_tup (pv 1)) (pg_name (i := 4) nd rfl (Or.inl rfl))
        (pss_cons (ps_expr (pe_bm PySem.F.plainAttrs_list PySem.F.slot_list_append PySem.F.type_list_append mt_append (pe_dget hu (pv 3) (pe_ix ix_tup (pv 4) pe_int (fun _ _ => rfl)) (fun _ _ => rfl)) (pa_cons (pe_ix ix_tup (pv 4) pe_int (fun _ _ => rfl)) pa_nil)))
        (pss_one (ps_expr (pe_bm PySem.F.plainAttrs_list PySem.F.slot_list_append PySem.F.type_list_append mt_append (pe_dget hu (pv 3) (pe_ix ix_tup (pv 4) pe_int (fun _ _ => rfl)) (fun _ _ => rfl)) (pa_cons (pe_ix ix_tup (pv 4) pe_int (fun _ _ => rfl)) pa_nil))))))
      (pss_cons (ps_set (i := 5) nd rfl (Or.inl rfl) (pe_disp (pps_cons (pv 2) pe_bl pps_nil) (by rfl) (by rfl) (fun z => by cases z) (by decide)))
      (pss_cons (ps_set (i := 6) nd rfl (Or.inl rfl) (pe_lst (pa_cons (pv 2) pa_nil)))
      (pss_cons (ps_while PassesOwn.never (pt_truth (pv 6) (by intro _; rfl))
        (pss_cons (ps_set (i := 7) nd rfl (Or.inl rfl) (pe_bm0 PySem.F.plainAttrs_list PySem.F.slot_list_pop PySem.F.type_list_pop mt_pop (pv 6)))
        (pss_one (ps_for PassesOwn.never rfl (pi_list (pe_dget hu (pv 3) (pv 7) (fun _ _ => rfl))) (pg_name (i := 8) nd rfl (Or.inl rfl))
          (pss_one (ps_if (pt_cmp (pc_dnotin hu (pv 8) (pv 5))) (pss_cons (ps_dput hu (pv 5) (pv 8) pe_bl rfl)
            (pss_one (ps_expr (pe_bm PySem.F.plainAttrs_list PySem.F.slot_list_append PySem.F.type_list_append mt_append (pv 6) (pa_cons (pv 8) pa_nil))))) pss_nil))))))
      (pss_one (ps_ret (pe_cmpR op_eq (pe_callB call_lenD (by rfl) ml PySem.boot_len (pa_cons (pv 5) pa_nil)) (pe_callB call_len_seq (by rfl) ml PySem.boot_len (pa_cons (pv 0) pa_nil)) (nomark _)))))))), ?_⟩
    have lenN : (ns.map V.str).length = ns.length := List.length_map ..
    have blen : bv.length = bs.length := by rw [dats_len dats, List.length_map]
    -- the dict
    refine ⟨fun σ' G => ∃ (d : Addr) (f : Str → Addr), σ' = ([some (.ref a), some (.ref c), some (.str x), some (.ref d), none, none, none, none, none, none] : L2.St) ∧ Bes H G d ns f (fun _ => []), ?_, ?_⟩
    · refine ⟨_, rfl, a, rfl, ⟨_, sqa⟩, fun D nD => ?_⟩
      refine dc_tup (K := K) (a := a) (xs := ns.map V.str) (fun i G => ∃ f : Str → Addr, Bes H G D (ns.take i) f (fun _ => [])) ?_ (fun i G _ ⟨_, s⟩ => sqt_up s.same sqa) ?_ ?_
      · exact ⟨fun _ => D, same_new nD, nD, upd_same, fun n m => by simp at m, fun n m => by simp at m, fun n m => by simp at m⟩
      · rintro i v G at_i ⟨f, be⟩
        rw [List.getElem?_map] at at_i
        obtain ⟨y, ey, rfl⟩ := Option.map_eq_some_iff.mp at_i
        have lt : i < ns.length := (List.getElem?_eq_some_iff.mp ey).1
        have tk : ns.take (i + 1) = ns.take i ++ [y] := by
          rw [List.take_succ, ey]
          rfl
        have fresh : y ∉ ns.take i := fun z => by
          have n2 : (ns.take (i + 1)).Nodup := nodup.sublist (List.take_sublist _ _)
          rw [tk] at n2
          exact (List.nodup_append.mp n2).2.2 y z y (by simp) rfl
        refine ⟨rfl, _, rfl, Nat.zero_le _, fun p np => ?_⟩
        obtain ⟨p0, pD, pf⟩ := be.fresh np
        have at_D : upd G p (.lst []) D = some (.dK (byN (ns.take i) fun n => .ref (f n))) := by
          rw [upd_ne pD.symm]
          exact be.dict
        refine ⟨_, Sum.inr y, rfl, at_D, small1000 (by unfold byN; rw [List.length_map, List.length_take]; omega), fun z => if z = y then p else f z, ?_⟩
        have e1 : byN (ns.take i) (fun n => V.ref (f n)) = byN (ns.take i) (fun n => V.ref (if n = y then p else f n)) := byN_congr fun n m => by
          have ne : n ≠ y := fun z => fresh (by rw [← z]; exact m)
          rw [if_neg ne]
        have e2 : putK (byN (ns.take i) fun n => V.ref (if n = y then p else f n)) (Sum.inr y) (.ref p) = byN (ns.take (i + 1)) fun n => V.ref (if n = y then p else f n) := by
          have := put_byN (g := fun n => V.ref (if n = y then p else f n)) fresh
          rw [if_pos rfl] at this
          rw [this, tk]
        rw [e1, e2]
        refine ⟨same_set (be.same.trans (same_new np)) be.d0, be.d0, upd_same, fun n m => ?_, fun n m => ?_, fun n m k mk e => ?_⟩
        · rw [tk] at m
          by_cases ny : n = y
          · rw [if_pos ny, upd_ne pD, upd_same]
            rfl
          · have m' : n ∈ ns.take i := by
              rcases List.mem_append.mp m with m | m
              · exact m
              · exact absurd (by simpa using m) ny
            rw [if_neg ny, upd_ne (be.fd m'), upd_ne (pf n m').symm]
            exact be.at_ n m'
        · rw [tk] at m
          by_cases ny : n = y
          · simp only [if_pos ny]
            exact p0
          · have m' : n ∈ ns.take i := by
              rcases List.mem_append.mp m with m | m
              · exact m
              · exact absurd (by simpa using m) ny
            simp only [if_neg ny]
            exact be.new n m'
        · rw [tk] at m mk
          have old : ∀ {u : Str}, u ∈ ns.take i ++ [y] → u ≠ y → u ∈ ns.take i := fun {u} m n => by
            rcases List.mem_append.mp m with m | m
            · exact m
            · exact absurd (by simpa using m) n
          by_cases ny : n = y
          · by_cases ky : k = y
            · rw [ny, ky]
            · rw [if_pos ny, if_neg ky] at e
              exact absurd e (pf k (old mk ky))
          · by_cases ky : k = y
            · rw [if_neg ny, if_pos ky] at e
              exact absurd e.symm (pf n (old m ny))
            · rw [if_neg ny, if_neg ky] at e
              exact be.inj n (old m ny) k (old mk ky) e
      · rintro G ⟨f, be⟩
        rw [lenN, List.take_length] at be
        exact ⟨D, f, rfl, be⟩
    rintro _ G1 ⟨d, f, rfl, be1⟩
    -- the belts
    refine ⟨fun σ' G => ∃ (L : Str → List Str) (v4 : Option V), σ' = ([some (.ref a), some (.ref c), some (.str x), some (.ref d), v4, none, none, none, none, none] : L2.St) ∧ Bes H G d ns f L ∧ (∀ n ∈ ns, ∀ y, y ∈ L n ↔ beside_ bs n y) ∧ ∀ n, (L n).length ≤ 2 * bs.length, ?_, ?_⟩
    · refine ⟨_, rfl, c, rfl, ⟨_, sqt_up be1.same sqc⟩, ?_⟩
      refine for_tup (K := K) (a := c) (xs := bv) (fun j σ' G => ∃ (L : Str → List Str) (v4 : Option V), σ' = ([some (.ref a), some (.ref c), some (.str x), some (.ref d), v4, none, none, none, none, none] : L2.St) ∧ Bes H G d ns f L ∧ (∀ n ∈ ns, ∀ y, y ∈ L n ↔ beside_ (bs.take j) n y) ∧ ∀ n, (L n).length ≤ 2 * j)
        ⟨_, none, rfl, be1, fun n m y => ⟨fun z => by simp at z, fun ⟨m, z, _⟩ => by simp at z⟩, fun n => Nat.zero_le _⟩ (fun j σ' G _ ⟨_, _, _, s, _⟩ => sqt_up s.same sqc) ?_ ?_
      · rintro j v _ G at_j ⟨L, v4, rfl, be, iff, len⟩
        obtain ⟨m, t, em, rfl, sqt⟩ := belt_at j v dats at_j
        have mm : m ∈ bs := List.mem_of_getElem? em
        obtain ⟨e1, e2⟩ := ends m mm
        have lt : j < bs.length := (List.getElem?_eq_some_iff.mp em).1
        have get : ∀ {G' : Hp} {L' : Str → List Str} {n : Str}, Bes H G' d ns f L' → n ∈ ns → DGet G' d (.str n) (some (.ref (f n))) := fun {G' L' n} b mn => by
          have := DGet.k (k := Sum.inr n) b.dict
          rw [valV_byN, if_pos mn] at this
          exact this
        have be2 := be.app (y := m.2.1) e1
        have be3 := be2.app (y := m.1) e2
        refine ⟨_, rfl, _, rfl, t, _, 0, _, rfl, rfl, sqt_up be.same sqt, rfl, d, .ref (f m.1), rfl, get be e1, .inl ⟨rfl, _, SqL.of (be.at_ _ e1)⟩, _, rfl, t, _, 1, _, rfl, rfl, sqt_up be.same sqt, rfl, f m.1, _, .str m.2.1, rfl, rfl, be.at_ _ e1, small1000 (by rw [List.length_map]; have := len m.1; omega), ?_⟩
        have h2 : upd G (f m.1) (.lst ((L m.1).map V.str ++ [.str m.2.1])) = upd G (f m.1) (.lst ((L m.1 ++ [m.2.1]).map V.str)) := by
          rw [List.map_append]
          rfl
        rw [h2]
        generalize upd G (f m.1) (.lst ((L m.1 ++ [m.2.1]).map V.str)) = G2 at be2 be3
        have len2 : ∀ n, (if n = m.1 then L m.1 ++ [m.2.1] else L n).length ≤ 2 * j + 1 := fun n => by
          by_cases e : n = m.1
          · rw [if_pos e, List.length_append]
            exact Nat.succ_le_succ (len _)
          · rw [if_neg e]
            exact Nat.le_succ_of_le (len _)
        refine ⟨_, rfl, _, rfl, t, _, 1, _, rfl, rfl, sqt_up be2.same sqt, rfl, d, .ref (f m.2.1), rfl, get be2 e2, .inl ⟨rfl, _, SqL.of (be2.at_ _ e2)⟩, _, rfl, t, _, 0, _, rfl, rfl, sqt_up be2.same sqt, rfl, f m.2.1, _, .str m.1, rfl, rfl, be2.at_ _ e2, small1000 (by rw [List.length_map]; have := len2 m.2.1; omega), ?_⟩
        refine ⟨fun z => if z = m.2.1 then (if m.2.1 = m.1 then L m.1 ++ [m.2.1] else L m.2.1) ++ [m.1] else (if z = m.1 then L m.1 ++ [m.2.1] else L z), _, rfl, ?_, ?_, ?_⟩
        · have h3 : upd G2 (f m.2.1) (.lst ((if m.2.1 = m.1 then L m.1 ++ [m.2.1] else L m.2.1).map V.str ++ [.str m.1])) = upd G2 (f m.2.1) (.lst (((if m.2.1 = m.1 then L m.1 ++ [m.2.1] else L m.2.1) ++ [m.1]).map V.str)) := by
            rw [List.map_append]
            rfl
          rw [h3]
          exact be3
        · intro n mn y
          have base_ := iff n mn y
          have tg : ∀ u : Belt, u ∈ bs.take (j + 1) ↔ u ∈ bs.take j ∨ u = m := fun u => take_get em
          have split : beside_ (bs.take (j + 1)) n y ↔ beside_ (bs.take j) n y ∨ (m.1 = n ∧ m.2.1 = y) ∨ (m.2.1 = n ∧ m.1 = y) := by
            constructor
            · rintro ⟨u, mu, h⟩
              rcases (tg u).mp mu with q | q
              · exact .inl ⟨u, q, h⟩
              · exact .inr (q ▸ h)
            · rintro (⟨u, mu, h⟩ | h)
              · exact ⟨u, (tg u).mpr (.inl mu), h⟩
              · exact ⟨m, (tg m).mpr (.inr rfl), h⟩
          rw [split, ← base_]
          show (y ∈ if n = m.2.1 then (if m.2.1 = m.1 then L m.1 ++ [m.2.1] else L m.2.1) ++ [m.1] else (if n = m.1 then L m.1 ++ [m.2.1] else L n)) ↔ _
          by_cases a1 : n = m.2.1
          · rw [if_pos a1, ← a1]
            by_cases a2 : n = m.1
            · rw [if_pos a2, ← a2, List.mem_append, List.mem_append]
              simp only [List.mem_singleton]
              constructor
              · rintro ((h | h) | h)
                · exact .inl h
                · exact .inr (.inl ⟨by first | exact rfl | exact trivial, h.symm⟩)
                · exact .inr (.inl ⟨by first | exact rfl | exact trivial, h.symm⟩)
              · rintro (h | h | h)
                · exact .inl (.inl h)
                · exact .inr h.2.symm
                · exact .inr h.2.symm
            · rw [if_neg a2, List.mem_append]
              simp only [List.mem_singleton]
              constructor
              · rintro (h | h)
                · exact .inl h
                · exact .inr (.inr ⟨by first | exact rfl | exact trivial, h.symm⟩)
              · rintro (h | h | h)
                · exact .inl h
                · exact absurd h.1.symm a2
                · exact .inr h.2.symm
          · rw [if_neg a1]
            by_cases a2 : n = m.1
            · rw [if_pos a2, ← a2, List.mem_append]
              simp only [List.mem_singleton]
              constructor
              · rintro (h | h)
                · exact .inl h
                · exact .inr (.inl ⟨by first | exact rfl | exact trivial, h.symm⟩)
              · rintro (h | h | h)
                · exact .inl h
                · exact .inr h.2.symm
                · exact absurd h.1.symm a1
            · rw [if_neg a2]
              constructor
              · exact .inl
              · rintro (h | h | h)
                · exact h
                · exact absurd h.1.symm a2
                · exact absurd h.1.symm a1
        · intro n
          show (if n = m.2.1 then (if m.2.1 = m.1 then L m.1 ++ [m.2.1] else L m.2.1) ++ [m.1] else (if n = m.1 then L m.1 ++ [m.2.1] else L n)).length ≤ _
          by_cases e : n = m.2.1
          · rw [if_pos e, List.length_append]
            have := len2 m.2.1
            show _ + 1 ≤ _
            omega
          · rw [if_neg e]
            have := len2 n
            omega
      · rintro _ G ⟨L, v4, rfl, be, iff, len⟩
        rw [blen, List.take_length] at iff
        rw [blen] at len
        exact ⟨L, v4, rfl, be, iff, len⟩
    rintro _ G2 ⟨L, v4, rfl, be2, iff, lenL⟩
    -- reached, waiting
    refine fun e ne => ⟨_, rfl, ?_⟩
    obtain ⟨e0, ed, ef⟩ := be2.fresh ne
    have be3 : Bes H (upd G2 e (.dK [])) d ns f L := be2.off e0 ed ef
    refine ⟨upd_same, [(Sum.inr x, .bl true)], rfl, by show 1 ≤ 15; decide, ?_⟩
    have be4 : Bes H (upd (upd G2 e (.dK [])) e (.dK (mergeK [] [(Sum.inr x, .bl true)]))) d ns f L := be3.off e0 ed ef
    have at_e : upd (upd G2 e (.dK [])) e (.dK (mergeK [] [(Sum.inr x, .bl true)])) e = some (.dK (byN [x] fun _ => .bl true)) := upd_same
    generalize upd (upd G2 e (.dK [])) e (.dK (mergeK [] [(Sum.inr x, .bl true)])) = G4 at be4 at_e
    refine ⟨_, rfl, len_line (by show 1 ≤ 100000; decide), fun wl nw => ?_⟩
    obtain ⟨w0, wd, wf⟩ := be4.fresh nw
    have be5 : Bes H (upd G4 wl (.lst [.str x])) d ns f L := be4.off w0 wd wf
    have we : wl ≠ e := (ne_of_none at_e nw).symm
    have at_e5 : upd G4 wl (.lst [.str x]) e = some (.dK (byN [x] fun _ => .bl true)) := by
      rw [upd_ne we.symm]
      exact at_e
    have at_w5 : upd G4 wl (.lst [.str x]) wl = some (.lst ([x].map V.str)) := upd_same
    generalize upd G4 wl (.lst [.str x]) = G5 at be5 at_e5 at_w5
    have nsub : ∀ {n y : Str}, n ∈ ns → y ∈ L n → y ∈ ns := fun {n y} mn my => by
      obtain ⟨m, mm, h⟩ := (iff n mn y).mp my
      rcases h with ⟨_, h⟩ | ⟨_, h⟩
      · exact h ▸ (ends m mm).2
      · exact h ▸ (ends m mm).1
    have nreach : ∀ {n y : Str}, n ∈ ns → Reach bs x n → y ∈ L n → Reach bs x y := fun {n y} mn r my => by
      obtain ⟨m, mm, h⟩ := (iff n mn y).mp my
      rcases h with ⟨h1, h⟩ | ⟨h1, h⟩
      · exact h ▸ Reach.ahead r mm h1
      · exact h ▸ Reach.back r mm h1
    refine ⟨fun m σ' G => ∃ (rs ws : List Str) (v7 v8 : Option V), σ' = ([some (.ref a), some (.ref c), some (.str x), some (.ref d), v4, some (.ref e), some (.ref wl), v7, v8, none] : L2.St) ∧ Bes H G d ns f L ∧ G e = some (.dK (byN rs fun _ => .bl true)) ∧ G wl = some (.lst (ws.map V.str)) ∧
      Met ns bs x rs ∧ (∀ r ∈ ws, r ∈ rs) ∧ (∀ r ∈ rs, r ∉ ws → ∀ y ∈ L r, y ∈ rs) ∧ m = 2 * (ns.length - rs.length) + ws.length ∧ m ≤ 300, ⟨_, [x], [x], none, none, rfl, be5, at_e5, at_w5, ⟨by simp, fun y m => ?_, fun y m => ?_, by simp⟩, fun r m => m, fun r m n => absurd m n, rfl, by show 2 * (ns.length - 1) + 1 ≤ 300; omega⟩, ?_⟩
    · have : y = x := by simpa using m
      exact this ▸ mx
    · have : y = x := by simpa using m
      exact this ▸ .here
    rintro m _ G ⟨rs, ws, v7, v8, rfl, be, at_r, at_w, mt, sub, cl, em, m300⟩
    refine ⟨_, rfl, !(ws.map V.str).isEmpty, .inl ⟨_, SqL.of at_w, rfl⟩, ?_⟩
    rcases List.eq_nil_or_concat ws with rfl | ⟨ws', h, rfl⟩
    · refine iteF ?_
      have closed : closedL bs rs := fun m mm => by
        obtain ⟨e1, e2⟩ := ends m mm
        exact ⟨fun r => cl _ r (by simp) _ ((iff _ e1 _).mpr ⟨m, mm, .inl ⟨rfl, rfl⟩⟩), fun r => cl _ r (by simp) _ ((iff _ e2 _).mpr ⟨m, mm, .inr ⟨rfl, rfl⟩⟩)⟩
      refine ⟨_, rfl, e, _, rfl, at_r, _, rfl, a, _, rfl, .inr (sqt_up be.same sqa), rfl, ?_⟩
      refine fin _ _ be.same ?_
      rw [← mt.all closed]
      have l1 : (byN rs fun _ => V.bl true).length = rs.length := List.length_map ..
      rw [l1, lenN]
      have le := nodup_sub_len mt.nd mt.sub
      constructor
      · intro h
        have h' : V.int (rs.length : Nat) = V.int (ns.length : Nat) := of_decide_eq_true h
        have h2 : (rs.length : Int) = ns.length := by injection h'
        exact nodup_full mt.nd mt.sub (by omega)
      · intro h
        have := nodup_sub_len nodup h
        have e2 : rs.length = ns.length := by omega
        rw [e2]
        exact decide_eq_true rfl
    · rw [List.concat_eq_append] at *
      have ne_ : (!((ws' ++ [h]).map V.str).isEmpty) = true := by simp
      rw [ne_]
      have hr_ : h ∈ rs := sub h (by simp)
      have hn : h ∈ ns := mt.sub h hr_
      have wlf : ∀ n ∈ ns, wl ≠ f n := wf
      refine iteT ⟨fun σ' G => ∃ (rs ws : List Str) (v7 v8 : Option V), σ' = ([some (.ref a), some (.ref c), some (.str x), some (.ref d), v4, some (.ref e), some (.ref wl), v7, v8, none] : L2.St) ∧ Bes H G d ns f L ∧ G e = some (.dK (byN rs fun _ => .bl true)) ∧ G wl = some (.lst (ws.map V.str)) ∧
        Met ns bs x rs ∧ (∀ r ∈ ws, r ∈ rs) ∧ (∀ r ∈ rs, r ∉ ws → ∀ y ∈ L r, y ∈ rs) ∧ 2 * (ns.length - rs.length) + ws.length < m, ?_, ?_⟩
      · rintro σ' G' ⟨rs', ws2, w7, w8, e1, b1, r1, a1, m1, s1, c1, lt⟩
        exact ⟨_, lt, rs', ws2, w7, w8, e1, b1, r1, a1, m1, s1, c1, rfl, by omega⟩
      refine ⟨_, rfl, .inl ⟨rfl, _, SqL.of at_w⟩, wl, _, .str h, rfl, rfl, at_w, by simp, ?_⟩
      have dl : ((ws' ++ [h]).map V.str).dropLast = ws'.map V.str := by
        rw [List.map_append]
        exact List.dropLast_concat
      rw [dl]
      have beA : Bes H (upd G wl (.lst (ws'.map V.str))) d ns f L := be.off w0 wd wf
      have at_eA : upd G wl (.lst (ws'.map V.str)) e = some (.dK (byN rs fun _ => .bl true)) := by
        rw [upd_ne we.symm]
        exact at_r
      have at_wA : upd G wl (.lst (ws'.map V.str)) wl = some (.lst (ws'.map V.str)) := upd_same
      generalize upd G wl (.lst (ws'.map V.str)) = GA at beA at_eA at_wA
      have getH : ∀ {G' : Hp}, Bes H G' d ns f L → DGet G' d (.str h) (some (.ref (f h))) := fun {G'} b => by
        have := DGet.k (k := Sum.inr h) b.dict
        rw [valV_byN, if_pos hn] at this
        exact this
      refine ⟨_, rfl, _, rfl, d, .ref (f h), rfl, getH beA, f h, rfl, ⟨_, SqL.of (beA.at_ h hn)⟩, ?_⟩
      refine for_list (K := K) (a := f h) (xs := (L h).map V.str) (fun j σ' G => ∃ (rs ws : List Str) (v8 : Option V), σ' = ([some (.ref a), some (.ref c), some (.str x), some (.ref d), v4, some (.ref e), some (.ref wl), some (.str h), v8, none] : L2.St) ∧ Bes H G d ns f L ∧ G e = some (.dK (byN rs fun _ => .bl true)) ∧ G wl = some (.lst (ws.map V.str)) ∧
        Met ns bs x rs ∧ h ∈ rs ∧ (∀ r ∈ ws, r ∈ rs) ∧ (∀ r ∈ rs, r ∉ ws → r ≠ h → ∀ y ∈ L r, y ∈ rs) ∧ (∀ y ∈ (L h).take j, y ∈ rs) ∧ 2 * (ns.length - rs.length) + ws.length < m)
        ⟨rs, ws', _, rfl, beA, at_eA, at_wA, mt, hr_, fun r q => sub r (List.mem_append_left _ q), fun r q n1 n2 => cl r q (fun z => by
          rcases List.mem_append.mp z with z | z
          · exact n1 z
          · exact n2 (by simpa using z)), fun y q => by simp at q, by rw [em, List.length_append]; show _ < _ + (_ + 1); omega⟩ (fun j σ' G _ ⟨_, _, _, _, b, _⟩ => SqL.of (b.at_ h hn)) ?_ ?_
      · rintro j v _ G' at_j ⟨rs', ws2, u8, rfl, b, r1, a1, m1, hh, s1, c1, t1, lt⟩
        rw [List.getElem?_map] at at_j
        obtain ⟨y, ey, rfl⟩ := Option.map_eq_some_iff.mp at_j
        have my : y ∈ L h := List.mem_of_getElem? ey
        have yn : y ∈ ns := nsub hn my
        have dg := DGet.k (k := Sum.inr y) r1
        rw [valV_byN] at dg
        refine ⟨_, rfl, _, rfl, e, _, rfl, dg, _, rfl, ?_⟩
        by_cases q : y ∈ rs'
        · rw [if_pos q]
          refine iteF ⟨rs', ws2, _, rfl, b, r1, a1, m1, hh, s1, c1, fun z mz => ?_, lt⟩
          rcases (take_get ey).mp mz with mz | rfl
          · exact t1 z mz
          · exact q
        · rw [if_neg q]
          have le := nodup_sub_len (l := y :: rs') (m := ns) (List.nodup_cons.mpr ⟨q, m1.nd⟩) fun z mz => by
            cases mz with
            | head => exact yn
            | tail _ mz => exact m1.sub z mz
          rw [List.length_cons] at le
          refine iteT ⟨_, rfl, _, rfl, e, _, rfl, DPut.k (k := Sum.inr y) r1 (small1000 (by unfold byN; rw [List.length_map]; omega)), ?_⟩
          rw [put_byN (g := fun _ => V.bl true) q]
          have bB : Bes H (upd G' e (.dK (byN (rs' ++ [y]) fun _ => .bl true))) d ns f L := b.off e0 ed ef
          have at_eB : upd G' e (.dK (byN (rs' ++ [y]) fun _ => .bl true)) e = some (.dK (byN (rs' ++ [y]) fun _ => .bl true)) := upd_same
          have at_wB : upd G' e (.dK (byN (rs' ++ [y]) fun _ => .bl true)) wl = some (.lst (ws2.map V.str)) := by
            rw [upd_ne we]
            exact a1
          generalize upd G' e (.dK (byN (rs' ++ [y]) fun _ => .bl true)) = GB at bB at_eB at_wB
          refine ⟨_, rfl, .inl ⟨rfl, _, SqL.of at_wB⟩, _, rfl, wl, _, .str y, rfl, rfl, at_wB, small1000 (by rw [List.length_map]; omega), ?_⟩
          refine ⟨rs' ++ [y], ws2 ++ [y], _, rfl, bB.off w0 wd wf, by rw [upd_ne we.symm]; exact at_eB, by rw [upd_same, List.map_append]; rfl, m1.add q yn (nreach hn (m1.reach h hh) my), List.mem_append_left _ hh, fun r mr => ?_, fun r mr n1 n2 => ?_, fun z mz => ?_, ?_⟩
          · rcases List.mem_append.mp mr with mr | mr
            · exact List.mem_append_left _ (s1 r mr)
            · exact List.mem_append_right _ mr
          · have n3 : r ≠ y := fun z => n1 (by rw [z]; simp)
            have n4 : r ∉ ws2 := fun z => n1 (List.mem_append_left _ z)
            rcases List.mem_append.mp mr with mr | mr
            · exact fun u mu => List.mem_append_left _ (c1 r mr n4 n2 u mu)
            · exact absurd (by simpa using mr) n3
          · rcases (take_get ey).mp mz with mz | rfl
            · exact List.mem_append_left _ (t1 z mz)
            · simp
          · rw [List.length_append, List.length_append]
            show 2 * (ns.length - (rs'.length + 1)) + (ws2.length + 1) < m
            omega
      · rintro _ G' ⟨rs', ws2, u8, rfl, b, r1, a1, m1, hh, s1, c1, t1, lt⟩
        rw [List.length_map, List.take_length] at t1
        refine ⟨rs', ws2, _, _, rfl, b, r1, a1, m1, s1, fun r mr n1 => ?_, lt⟩
        by_cases q : r = h
        · exact q ▸ t1
        · exact c1 r mr n1 q
end
end K29

namespace Vd
open PySem PySem.Spec PyProof.Rows L2
open AutoSeq1 in
theorem list_extend_tup (l : Addr) (items : Array Value) (n : Nat) (b : Addr) (items2 : Array Value) (n2 : Nat) (d2 : Option Addr) (s2 : Array (Option Value)) (hs0 : ¬(!items.isEmpty && Builtin.List.listTooLong (items.size + items2.size)) = true) (hs1 : items.size ≤ sizeLine) (hs2 : items.size + items2.size ≤ sizeLine + 1) :
    Meets (Builtin.«list.extend» ⟨[.ref l, .ref b], []⟩) (fun _ R s => s.heap.get? l = some { cls := .type "list", dict := none, data := .seq items n, slots := #[] } ∧ s.heap.get? b = some { cls := .type "tuple", dict := d2, data := .seq items2 n2, slots := s2 } ∧ R (.ok (.ret Value.none)) { s with heap := s.heap.update l (Obj.mapSeq fun x => x ++ items2), toks := s.toks }) :=
  .of_wp fun prog w A R s h => by
    obtain ⟨hp, g, d, tk, os⟩ := s; obtain ⟨hl, hb, h⟩ := h; have f1 := idx_int; have f2 := AutoSeq1.sub_tuple_tuple; have f3 := AutoSeq1.sub_list_list; have f4 := AutoSeq1.sub_tuple_list; have f5 := AutoSeq1.sub_list_tuple;
    have hz' : (items ++ items2).size ≤ sizeLine + 1 := by rw [Array.size_append]; exact hs2
    wp_walk using (wpAny_updateSeq hl rfl (hz := hs1) (_hz' := hz')), wpAny_loadPart' hl, wpAny_loadPart' hb; exact ⟨_, rfl, h⟩
section
variable {X : Cx}
/-- xs.extend(t), t a tuple -/
theorem mt_extendT : MtM X "list.extend" (fun x vs H Q => ∃ l b xs zs, x = .ref l ∧ vs = [.ref b] ∧ H l = some (.lst xs) ∧ SqT X.K H b zs ∧ xs.length + zs.length ≤ sizeLine ∧ Q .non (upd H l (.lst (xs ++ zs)))) := by
  intro pins s σ H x vs v us Q I rx rv h
  obtain ⟨l, b, xs, zs, rfl, rfl, hH, hB, hz, q⟩ := h
  cases rx
  obtain ⟨u, rfl, ru⟩ := rv.one
  cases ru
  obtain ⟨z, its, n, r, hl, e⟩ := I.lstM hH
  obtain ⟨its2, r2, ⟨⟨c2, d2, dt2, s2⟩, o2, hc2, n2, hd2⟩, f2⟩ := I.tuple hB
  simp only at hc2 hd2
  subst hc2 hd2
  have e1 := r2.length
  have hsz : its.toArray.size + its2.toArray.size ≤ sizeLine := by rw [List.size_toArray, List.size_toArray]; omega
  have hlong : ¬ (!its.toArray.isEmpty && Builtin.List.listTooLong (its.toArray.size + its2.toArray.size)) = true := by
    rw [notLongL hsz, Bool.and_false]
    exact Bool.false_ne_true
  refine call_meets F.slot_list_extend ⟨_, e, rfl⟩ F.entry_list_extend (F.args_list_extend_2 _ _)
    (list_extend_tup l its.toArray n b its2.toArray n2 d2 s2 hlong (by rw [List.size_toArray]; omega) (by omega)) ⟨e, o2, ?_⟩
  refine ⟨.non, _, I.lset (its' := its ++ its2) hH e (by simp) (r.append r2) ?_, rfl, q⟩
  rw [List.length_append]
  omega
end
end Vd

namespace K29
open PySem PySem.Spec PyProof.Rows L2 Vd Evl
/-- where all stands -/
structure Txt (K : PySem.W.Frag) (mg : Str → Option Value) where
  fRed : Addr
  fTup : Addr
  fInt_ : Addr
  fCnt : Addr
  fPos : Addr
  fNam : Addr
  fFrac : Addr
  fPur : Addr
  fPurs : Addr
  fMach : Addr
  fBelt : Addr
  fJoin : Addr
  fBag : Addr
  fTake : Addr
  fSome_ : Addr
  fMix : Addr
  fAlike : Addr
  fLInt : Addr
  fNames : Addr
  fLPurs : Addr
  fFirst : Addr
  fWeb : Addr
  fOdd : Addr
  fBent : Addr
  fLName : Addr
  fAbove : Addr
  fLPur : Addr
  fLMach : Addr
  fLBelt : Addr
  fLJoin : Addr
  fAny : Addr
  fLFrac : Addr
  fNear : Addr
  dRed : FuncData
  dTup : FuncData
  dInt_ : FuncData
  dCnt : FuncData
  dPos : FuncData
  dNam : FuncData
  dFrac : FuncData
  dPur : FuncData
  dPurs : FuncData
  dMach : FuncData
  dBelt : FuncData
  dJoin : FuncData
  dBag : FuncData
  dTake : FuncData
  dSome_ : FuncData
  dMix : FuncData
  dAlike : FuncData
  dLInt : FuncData
  dNames : FuncData
  dLPurs : FuncData
  dFirst : FuncData
  dWeb : FuncData
  dOdd : FuncData
  dBent : FuncData
  dLName : FuncData
  dAbove : FuncData
  dLPur : FuncData
  dLMach : FuncData
  dLBelt : FuncData
  dLJoin : FuncData
  dAny : FuncData
  dLFrac : FuncData
  dNear : FuncData
  Red : At K mg "reduced" sRed ["n", "d"] fRed dRed
  Tup : At K mg "is_tuple_of" sTupOf ["thing", "many"] fTup dTup
  Int_ : At K mg "is_integer" sInt_ ["thing"] fInt_ dInt_
  Cnt : At K mg "is_count" sCount ["thing"] fCnt dCnt
  Pos : At K mg "is_positive" sPos ["thing"] fPos dPos
  Nam : At K mg "is_name" sName ["thing"] fNam dNam
  Frac : At K mg "is_fraction" sFrac ["thing"] fFrac dFrac
  Pur : At K mg "is_purse" sPurse ["thing"] fPur dPur
  Purs : At K mg "are_purses" sPurs ["thing"] fPurs dPurs
  Mach : At K mg "is_machine" sMach ["thing"] fMach dMach
  Belt : At K mg "is_belt" sBelt ["thing"] fBelt dBelt
  Join : At K mg "is_joined" sJoin ["names", "belts", "name"] fJoin dJoin
  Bag : At K mg "_law_bag" sBag ["script"] fBag dBag
  Take : At K mg "_law_take" sTake ["bag", "many"] fTake dTake
  Some_ : At K mg "_law_some" sSome ["bag", "things"] fSome_ dSome_
  Mix : At K mg "_law_mixed" sMixed ["bag", "things"] fMix dMix
  Alike : At K mg "_law_alike" sAlike ["found", "due"] fAlike dAlike
  LInt : At K mg "_law_is_int" sLInt ["thing"] fLInt dLInt
  Names : At K mg "_law_names" sNames ["hall"] fNames dNames
  LPurs : At K mg "_law_purses" sPur ["bag", "most"] fLPurs dLPurs
  First : At K mg "_law_first" sFirst ["bag", "room"] fFirst dFirst
  Web : At K mg "_law_web" sWeb ["bag", "machines", "most"] fWeb dWeb
  Odd : At K mg "_law_odd" sOdd ["bag"] fOdd dOdd
  Bent : At K mg "_law_bent" sBent ["bag", "thing", "deep"] fBent dBent
  LName : At K mg "_law_is_name" sLName ["thing"] fLName dLName
  Above : At K mg "_law_is_above" sLAbove ["thing", "least"] fAbove dAbove
  LPur : At K mg "_law_is_purse" sLPurse ["thing"] fLPur dLPur
  LMach : At K mg "_law_is_machine" sLMach ["thing"] fLMach dLMach
  LBelt : At K mg "_law_is_belt" sLBelt ["thing"] fLBelt dLBelt
  LJoin : At K mg "_law_are_joined" sLJoin ["names", "belts", "name"] fLJoin dLJoin
  Any : At K mg "_law_any_hall" sAny ["bag"] fAny dAny
  LFrac : At K mg "_law_is_fraction" sLFrac ["thing"] fLFrac dLFrac
  Near : At K mg "_law_near" sNear ["bag"] fNear dNear
  mint : mg "int" = none
  mlen : mg "len" = none
  mabs : mg "abs" = none
  mrepr : mg "repr" = none
  misinstance : mg "isinstance" = none
  mrange : mg "range" = none
  mlist : mg "list" = none
  mstr : mg "str" = none
  mtuple : mg "tuple" = none
  mdict : mg "dict" = none
  mbool : mg "bool" = none
  msorted : mg "sorted" = none
  mtype : mg "type" = none
  mall : mg "all" = none
  mgcd : mg "gcd" = some (.builtin "math.gcd")
  kint : KT K "int" wideInt
  kbool : KT K "bool" isBool
  ktuple : KT K "tuple" anyTup
  kstr : KT K "str" isStr
  kdict : KT K "dict" isDict
/-! ### a hall in a heap -/
structure HallAt (K : PySem.W.Frag) (b : Addr) (G : Hp) (r : Addr) (h : Hall) (pm pb : Addr) (mv bv : List V) : Prop where
  r : SqT K (del G b) r [.ref pm, .ref pb, .str h.fl]
  m : SqT K (del G b) pm mv
  md : DatAll K (del G b) mv (h.ms.map machD)
  bl : SqT K (del G b) pb bv
  bd : DatAll K (del G b) bv (h.bs.map beltD)
section
variable {K : PySem.W.Frag} {b : Addr} {G G' : Hp} {r pm pb : Addr} {h : Hall} {mv bv : List V} {most : Int}
theorem HallAt.of (x : Dt K b G (.ref r) (hallD h)) : ∃ pm pb mv bv, HallAt K b G r h pm pb mv bv := by
  have x' : Dat K (del G b) (.ref r) (hallD h) := x
  cases x' with
  | @tup _ xs _ sq all =>
    cases all with
    | cons h1 r1 =>
      cases r1 with
      | cons h2 r2 =>
        cases r2 with
        | cons h3 r3 =>
          cases r3
          cases h1 with
          | @tup pm mv _ s1 a1 =>
            cases h2 with
            | @tup pb bv _ s2 a2 =>
              cases h3
              exact ⟨pm, pb, mv, bv, sq, s1, a1, s2, a2⟩
theorem HallAt.but (s : But b G G') (x : HallAt K b G r h pm pb mv bv) : HallAt K b G' r h pm pb mv bv :=
  ⟨sqt_up (del_but s) x.r, sqt_up (del_but s) x.m, DatAll.up (del_but s) x.md, sqt_up (del_but s) x.bl, DatAll.up (del_but s) x.bd⟩
def PartV (K : PySem.W.Frag) (b : Addr) (G : Hp) (v : V) : Prop := ∃ d, Dt K b G v d ∧ Plain 9700 3 d
theorem PartV.but (s : But b G G') {v : V} (x : PartV K b G v) : PartV K b G' v := by
  obtain ⟨d, t, p⟩ := x
  exact ⟨d, t.but s, p⟩
theorem name_plain {h : Hall} (ok : Hall.Ok most h) {x : Str} (m : x ∈ h.ms.map (·.1)) : plain (.str x) = true ∧ Vd.wgt (.str x) ≤ 42 := by
  obtain ⟨y, my, rfl⟩ := List.mem_map.mp m
  have ten : y.1 = "fill" ∨ y.1 = "m" ∨ y.1 ∈ eight := by
    rcases ok.names y my with e | e
    · rw [e]
      rcases ok.fl with e | e
      · exact .inl e
      · exact .inr (.inl e)
    · exact .inr (.inr e)
  generalize y.1 = z at ten
  rcases ten with e | e | e
  · subst e; exact ⟨by decide +kernel, by decide +kernel⟩
  · subst e; exact ⟨by decide +kernel, by decide +kernel⟩
  · simp only [eight, List.mem_cons, List.not_mem_nil, or_false] at e
    rcases e with e | e | e | e | e | e | e | e <;> subst e <;> exact ⟨by decide +kernel, by decide +kernel⟩
theorem pair_plain {x : Int × Int} (ok : PurseOk most x) (m6 : most ≤ 6) : Plain 3850 1 (pairD x) := by
  obtain ⟨a1, a2, a3, a4⟩ := ok
  refine ⟨?_, by show (1921 + 2 + (1921 + 2 + 0)) + 4 ≤ 3850; decide, Nat.le_refl _⟩
  show (decide (x.1.natAbs ≤ 1000) && (decide (x.2.natAbs ≤ 1000) && true)) = true
  rw [decide_eq_true (show x.1.natAbs ≤ 1000 by omega), decide_eq_true (show x.2.natAbs ≤ 1000 by omega)]
  rfl
theorem plains_of : ∀ {ds : List PyData}, (∀ d ∈ ds, plain d = true) → plains ds = true
  | [], _ => rfl
  | d :: ds, h => by
    show (plain d && plains ds) = true
    rw [h d (.head _), plains_of fun e m => h e (.tail _ m)]
    rfl
theorem wgts_le {W : Nat} : ∀ {ds : List PyData}, (∀ d ∈ ds, Vd.wgt d ≤ W) → wgts ds ≤ ds.length * (W + 2)
  | [], _ => Nat.zero_le _
  | d :: ds, h => by
    have a := h d (.head _)
    have b := wgts_le (ds := ds) fun e m => h e (.tail _ m)
    show Vd.wgt d + 2 + wgts ds ≤ (ds.length + 1) * (W + 2)
    rw [Nat.add_mul]
    omega
theorem purses_plain {ps : List (Int × Int)} (few : ps.length ≤ 2) (ok : ∀ x ∈ ps, PurseOk most x) (m6 : most ≤ 6) : Plain 7708 2 (pursesD ps) := by
  have each : ∀ d ∈ ps.map pairD, Plain 3850 1 d := fun d m => by
    obtain ⟨x, mx, rfl⟩ := List.mem_map.mp m
    exact pair_plain (ok x mx) m6
  refine ⟨plains_of fun d m => (each d m).is, ?_, Nat.succ_le_succ (depthAll_le fun d m => (each d m).deep)⟩
  have := wgts_le fun d m => (each d m).wgt
  rw [List.length_map] at this
  show wgts (ps.map pairD) + 4 ≤ 7708
  omega
theorem mach_plain {h : Hall} (ok : Hall.Ok most h) (m6 : most ≤ 6) {m : Mach} (mm : m ∈ h.ms) : Plain 9700 3 (machD m) := by
  obtain ⟨a1, a2, a3, a4⟩ := ok.ms m mm
  obtain ⟨n1, n2⟩ := name_plain ok (List.mem_map.mpr ⟨m, mm, rfl⟩)
  obtain ⟨p1, p2, p3⟩ := purses_plain a3 a4 m6
  refine ⟨?_, ?_, ?_⟩
  · show (plain (.str m.1) && (decide (m.2.1.natAbs ≤ 1000) && (plain (pursesD m.2.2) && true))) = true
    rw [n1, p1, decide_eq_true (show m.2.1.natAbs ≤ 1000 by omega)]
    rfl
  · show (Vd.wgt (.str m.1) + 2 + (1921 + 2 + (Vd.wgt (pursesD m.2.2) + 2 + 0))) + 4 ≤ 9700
    omega
  · show Nat.succ (max 0 (max 0 (max (pursesD m.2.2).depth 0))) ≤ 3
    omega
theorem belt_plain {h : Hall} (ok : Hall.Ok most h) {m : Belt} (mm : m ∈ h.bs) : Plain 9700 3 (beltD m) := by
  obtain ⟨_, a1, a2, a3, a4, a5, a6⟩ := ok.bs m mm
  obtain ⟨n1, n2⟩ := name_plain ok a1
  obtain ⟨n3, n4⟩ := name_plain ok a2
  refine ⟨?_, ?_, ?_⟩
  · show (plain (.str m.1) && (plain (.str m.2.1) && (decide (m.2.2.1.natAbs ≤ 1000) && (decide (m.2.2.2.natAbs ≤ 1000) && true)))) = true
    rw [n1, n3, decide_eq_true (show m.2.2.1.natAbs ≤ 1000 by omega), decide_eq_true (show m.2.2.2.natAbs ≤ 1000 by omega)]
    rfl
  · show (Vd.wgt (.str m.1) + 2 + (Vd.wgt (.str m.2.1) + 2 + (1921 + 2 + (1921 + 2 + 0)))) + 4 ≤ 9700
    omega
  · show Nat.succ 0 ≤ 3
    decide
theorem fl_plain {h : Hall} (ok : Hall.Ok most h) : Plain 9700 3 (.str h.fl) := by
  obtain ⟨p, mp, _⟩ := ok.pace
  obtain ⟨n1, n2⟩ := name_plain ok (List.mem_map.mpr ⟨_, mp, rfl⟩)
  exact ⟨n1, Nat.le_trans n2 (by decide), Nat.zero_le _⟩
theorem dats_part {α : Type} {f : α → PyData} {W D : Nat} {H : Hp} : ∀ {vs : List V} {ms : List α}, DatAll K H vs (ms.map f) → (∀ m ∈ ms, Plain W D (f m)) → ∀ v ∈ vs, ∃ d, Dat K H v d ∧ Plain W D d
  | [], _, _, _, v, no => nomatch no
  | u :: vs, [], h, _, v, _ => by cases h
  | u :: vs, m :: ms, h, p, v, mv => by
    cases h with
    | cons a r =>
      cases mv with
      | head => exact ⟨_, a, p m (.head _)⟩
      | tail _ mv => exact dats_part r (fun n mn => p n (.tail _ mn)) v mv
theorem HallAt.parts (x : HallAt K b G r h pm pb mv bv) (ok : Hall.Ok most h) (m6 : most ≤ 6) : ∀ v ∈ mv ++ bv ++ [.str h.fl], PartV K b G v := fun v m => by
  rcases List.mem_append.mp m with m | m
  · rcases List.mem_append.mp m with m | m
    · obtain ⟨d, t, p⟩ := dats_part x.md (fun n mn => mach_plain ok m6 mn) v m
      exact ⟨d, t, p⟩
    · obtain ⟨d, t, p⟩ := dats_part x.bd (fun n mn => belt_plain ok mn) v m
      exact ⟨d, t, p⟩
  · have e : v = .str h.fl := by simpa using m
    subst e
    exact ⟨_, .str _, fl_plain ok⟩
/-- a machine's parts -/
theorem mach_at {H : Hp} : ∀ {mv : List V} {ms : List Mach} (j : Nat) (v : V), DatAll K H mv (ms.map machD) → mv[j]? = some v → ∃ (m : Mach) (t p : Addr) (pv : List V), ms[j]? = some m ∧ v = .ref t ∧ SqT K H t [.str m.1, .int m.2.1, .ref p] ∧ SqT K H p pv ∧ DatAll K H pv (m.2.2.map pairD)
  | [], ms, j, v, _, e => by simp at e
  | u :: mv, [], j, v, h, e => by cases h
  | u :: mv, m :: ms, 0, v, h, e => by
    cases h with
    | cons a r =>
      have e' : u = v := by simpa using e
      subst e'
      cases a with
      | @tup t xs _ sq all =>
        cases all with
        | cons h1 r1 =>
          cases h1
          cases r1 with
          | cons h2 r2 =>
            cases h2
            cases r2 with
            | cons h3 r3 =>
              cases r3
              cases h3 with
              | @tup p pv _ s2 a2 => exact ⟨m, t, p, pv, rfl, rfl, sq, s2, a2⟩
  | u :: mv, m :: ms, j + 1, v, h, e => by
    cases h with
    | cons a r => exact mach_at j v r (by simpa using e)
theorem Hall.Ok.nodup {h : Hall} (ok : Hall.Ok most h) : (h.ms.map (·.1)).Nodup := ok.asc.imp fun {x y} a e => by
  rw [e, ahead_irrefl] at a
  cases a
end
section
variable {P : Program} {w : World} {K : PySem.W.Frag} {mg : Str → Option Value} {base : Heap}
/-! ### the names -/
theorem scNames : FnScope ["hall", "machine"] ["hall"] (defScope sNames) := ⟨rfl, rfl, rfl, by decide +kernel, rfl, by decide +kernel, by decide +kernel⟩
def spNames (K : PySem.W.Frag) : Sp := fun vs H Q _ => ∃ (r pm : Addr) (rest mv : List V) (ms : List Mach), vs = [.ref r] ∧ SqT K H r (.ref pm :: rest) ∧ SqT K H pm mv ∧ DatAll K H mv (ms.map machD) ∧ ms.length ≤ 100 ∧
  ∀ H' q, Same H H' → H q = none → H' q = some (.lst ((ms.map (·.1)).map V.str)) → Q (.ref q) H'
theorem ok_names {f : Addr} {fd : FuncData} (F : At K mg "_law_names" sNames ["hall"] f fd) : FnOk P w K mg base CX0 1 f fd ["hall"] (spNames K) := by
  refine F.fn.ok scNames (fun vs H Q E h => ?_) (fun cdv A outer s H vs Q E hr h => ?_)
  · obtain ⟨r, pm, rest, mv, ms, rfl, _⟩ := h
    rfl
  · obtain ⟨r, pm, rest, mv, ms, rfl, sqr, sqm, dats, few, fin⟩ := h
    have nd := scNames.nd
    refine ⟨_, pss_one (ps_ret (pe_lc (own := [("machine", 1)]) (g := gName 1) (tt := tYes) rfl nd (pi_tup (pe_ix ix_tup (pv 0) pe_int (fun _ _ => rfl))) (blkOk_by (N := ["hall", "machine"]) (sc := defScope sNames) (by decide +kernel))
      (fun _ _ _ _ _ => pg_name (i := 1) nd rfl (Or.inl rfl)) (fun _ _ _ _ _ => pts_nil) (fun _ _ _ _ _ => pe_ix (r := rIxT K) ix_tup (pv 1) pe_int (fun _ _ => rfl)))), ?_⟩
    have mlen : mv.length = ms.length := by rw [dats_len dats, List.length_map]
    refine ⟨_, rfl, r, _, 0, _, rfl, rfl, sqr, atI_nat (j := 0) rfl, pm, rfl, ⟨_, sqm⟩, fun D nD => ?_⟩
    refine lc_tup (K := K) (a := pm) (xs := mv) (fun i G => Same H G ∧ G D = some (.lst (((ms.map (·.1)).take i).map V.str))) ⟨same_new nD, upd_same⟩ (fun i G _ ⟨s, _⟩ => sqt_up s sqm) ?_ ?_
    · rintro i v G at_i ⟨s, at_D⟩
      obtain ⟨m, t, p, pv, em, rfl, sqt, _⟩ := mach_at i v dats at_i
      have lt : i < ms.length := (List.getElem?_eq_some_iff.mp em).1
      have e1 : (ms.map (·.1)).take (i + 1) = (ms.map (·.1)).take i ++ [m.1] := by
        rw [List.take_succ, List.getElem?_map, em]
        rfl
      refine ⟨rfl, _, rfl, t, _, 0, _, rfl, rfl, sqt_up s sqt, rfl, _, at_D, small1000 ?_, same_set s nD, ?_⟩
      · rw [List.length_map, List.length_take, List.length_map]
        omega
      · rw [upd_same, e1, List.map_append]
        rfl
    · rintro G ⟨s, at_D⟩
      rw [mlen] at at_D
      refine fin G D s nD ?_
      rw [at_D, List.take_of_length_le (by rw [List.length_map]; omega)]
end
end K29

namespace K29
open PySem PySem.Spec PyProof.Rows L2 Vd Evl
abbrev sLaw : Stmt := topS 37
abbrev lawN : List Str := ["script", "bag", "hall", "parts", "machine", "turn", "part", "thing", "text", "due", "found", "names", "belts", "name"]
theorem scLaw : FnScope lawN ["script"] (defScope sLaw) := ⟨rfl, rfl, rfl, by decide +kernel, rfl, by decide +kernel, by decide +kernel⟩
def spLaw (K : PySem.W.Frag) : Sp := fun vs H Q _ => ∃ (a : Addr) (ns : List Int), vs = [.ref a] ∧ SqL K H a (ns.map V.int) ∧ ns.length ≤ 63 ∧ ∀ H', Q (.bl true) H'
/-- what the forms tell of a thing -/
def told (d : PyData) : List Bool := [isInt d, isAbove 0 d, isName d, isFrac d, isPurse d, isMach d, isBelt d]
theorem told_dat {K : PySem.W.Frag} {H : Hp} : ∀ l : List Bool, DatAll K H (l.map V.bl) (l.map PyData.bool)
  | [] => .nil
  | b :: l => .cons (.bl b) (told_dat l)
theorem bools_nice : ∀ l : List Bool, nices (l.map PyData.bool) = true ∧ wgts (l.map PyData.bool) = 7 * l.length ∧ PyData.depthAll (l.map PyData.bool) = 0
  | [] => ⟨rfl, rfl, rfl⟩
  | b :: l => by
    obtain ⟨h1, h2, h3⟩ := bools_nice l
    refine ⟨h1, ?_, ?_⟩
    · show 5 + 2 + wgts (l.map PyData.bool) = 7 * (l.length + 1)
      omega
    · show max 0 (PyData.depthAll (l.map PyData.bool)) = 0
      omega
theorem told_shows (d : PyData) : Shows (.list ((told d).map PyData.bool)) ∧ (PyData.list ((told d).map PyData.bool)).depth ≤ 60 := by
  obtain ⟨h1, h2, h3⟩ := bools_nice (told d)
  refine ⟨Shows.of h1 ?_, ?_⟩
  · show wgts ((told d).map PyData.bool) + 2 ≤ 10000000
    rw [h2]
    show 7 * 7 + 2 ≤ 10000000
    decide
  · show PyData.depthAll ((told d).map PyData.bool) + 1 ≤ 60
    omega
theorem Fit.shows {W D : Nat} {d : PyData} (h : Fit W D d) (hw : W ≤ 100000) (hd : D ≤ 60) : Shows d ∧ d.depth ≤ 60 := ⟨Shows.of h.nice (by have := h.wgt; omega), Nat.le_trans h.deep hd⟩
theorem Fit.ints {W D : Nat} {d : PyData} (h : Fit W D d) : ∀ i j, d = .tuple [.int i, .int j] → i.natAbs < 2 ^ 400 ∧ j.natAbs < 2 ^ 400 := fun i j e => by
  subst e
  have s := h.small
  have s' : (decide (i.natAbs < 2 ^ 400) && (decide (j.natAbs < 2 ^ 400) && true)) = true := s
  rw [Bool.and_eq_true, Bool.and_eq_true] at s'
  exact ⟨of_decide_eq_true s'.1, of_decide_eq_true s'.2.1⟩
section
variable {P : Program} {w : World} {K : PySem.W.Frag} {mg : Str → Option Value} {base : Heap}
theorem ok_law {f : Addr} {fd : FuncData} (F : Fun K "law" "law" sLaw f fd) (T : Txt K mg) : FnG P w K mg base 8 f fd ["script"] (spLaw K) := by
  have GBag : FnOk P w K mg base CX0 1 T.fBag T.dBag ["script"] (spBag K) := ok_bag T.Bag.fn T.mabs
  have GAny : FnOk P w K mg base CX0 5 T.fAny T.dAny ["bag"] (spAny K) := ok_any T.Any T.Web T.Take T.Some_ T.Mix T.LPurs T.First T.mint T.mlen T.mtuple T.mrange T.msorted
  have GSome : FnOk P w K mg base CX0 2 T.fSome_ T.dSome_ ["bag", "things"] (spSome K) := ok_some T.Some_ T.Take T.mint T.mlen
  have GTake : FnOk P w K mg base CX0 1 T.fTake T.dTake ["bag", "many"] spTake := ok_take T.Take.fn T.mint
  have GMix : FnOk P w K mg base CX0 2 T.fMix T.dMix ["bag", "things"] (spMixed K) := ok_mixed T.Mix T.Take T.mint T.mlen
  have GNear : FnOk P w K mg base CX0 3 T.fNear T.dNear ["bag"] (spThing K) := ok_near T.Near T.Take T.Some_ T.mint T.mlen
  have GOdd : FnOk P w K mg base CX0 3 T.fOdd T.dOdd ["bag"] (spOdd K) := ok_odd T.Odd T.Take T.Some_ T.mint T.mlen
  have GBent : FnOk P w K mg base CX0 7 T.fBent T.dBent ["bag", "thing", "deep"] (spBent K 3) := ok_bent T.Bent T.Take T.Some_ T.Odd T.LInt T.misinstance T.mint T.mbool T.mtuple T.mlen T.mstr T.mdict T.mlist T.kint T.kbool T.ktuple T.kstr T.kdict 3
  have GLInt : FnOk P w K mg base CX0 1 T.fLInt T.dLInt ["thing"] (spIs K isInt) := ok_lint T.LInt T.misinstance T.mint T.mbool T.kint T.kbool
  have GAbove : FnOk P w K mg base CX0 2 T.fAbove T.dAbove ["thing", "least"] (spAbove K) := ok_labove T.Above T.LInt T.misinstance T.mint T.mbool T.kint T.kbool
  have GLName : FnOk P w K mg base CX0 1 T.fLName T.dLName ["thing"] (spLName K) := ok_lname T.LName T.misinstance T.mstr T.mlen T.kstr
  have GLFrac : FnOk P w K mg base CX0 3 T.fLFrac T.dLFrac ["thing"] (spIs K isFrac) := ok_lfrac T.LFrac T.Above T.LInt T.misinstance T.mint T.mbool T.mtuple T.mlen T.mabs T.kint T.kbool T.ktuple
  have GLPur : FnOk P w K mg base CX0 3 T.fLPur T.dLPur ["thing"] (spIs K isPurse) := ok_lpurse T.LPur T.Above T.LInt T.misinstance T.mint T.mbool T.mtuple T.mlen T.kint T.kbool T.ktuple
  have GLMach : FnOk P w K mg base CX0 4 T.fLMach T.dLMach ["thing"] (spOn K isMach) := ok_lmach T.LMach T.LName T.LPur T.Above T.LInt T.misinstance T.mint T.mbool T.mtuple T.mlen T.mstr T.kint T.kbool T.ktuple T.kstr
  have GLBelt : FnOk P w K mg base CX0 3 T.fLBelt T.dLBelt ["thing"] (spOn K isBelt) := ok_lbelt T.LBelt T.LName T.Above T.LInt T.misinstance T.mint T.mbool T.mtuple T.mlen T.mstr T.kint T.kbool T.ktuple T.kstr
  have GInt : FnOk P w K mg base CX0 1 T.fInt_ T.dInt_ ["thing"] (spIs K isInt) := ok_isint T.Int_ T.mtype T.mint
  have GCnt : FnOk P w K mg base CX0 2 T.fCnt T.dCnt ["thing"] (spIs K (isAbove 0)) := ok_count T.Cnt T.Int_ T.mtype T.mint
  have GNam : FnOk P w K mg base CX0 1 T.fNam T.dNam ["thing"] (spName K) := ok_name T.Nam T.mtype T.mstr T.mlen T.mall
  have GFrac : FnOk P w K mg base CX0 3 T.fFrac T.dFrac ["thing"] (spFr K) := ok_frac T.Frac T.Red T.Tup T.Pos T.Int_ T.mtype T.mint T.mtuple T.mlen T.mgcd
  have GPur : FnOk P w K mg base CX0 3 T.fPur T.dPur ["thing"] (spIs K isPurse) := ok_purse T.Pur T.Tup T.Pos T.Cnt T.Int_ T.mtype T.mint T.mtuple T.mlen
  have GMach : FnOk P w K mg base CX0 5 T.fMach T.dMach ["thing"] (spOn K isMach) := ok_mach T.Mach T.Nam T.Purs T.Pur T.Tup T.Pos T.Cnt T.Int_ T.mtype T.mint T.mtuple T.mlen T.mall T.mstr
  have GBelt : FnOk P w K mg base CX0 3 T.fBelt T.dBelt ["thing"] (spOn K isBelt) := ok_belt T.Belt T.Nam T.Tup T.Pos T.Cnt T.Int_ T.mtype T.mint T.mtuple T.mlen T.mall T.mstr
  have GJoin : FnOk P w K mg base CX0 1 T.fJoin T.dJoin ["names", "belts", "name"] (spJoin K) := ok_join T.Join T.mlen
  have GLJoin : FnOk P w K mg base CX0 1 T.fLJoin T.dLJoin ["names", "belts", "name"] (spJoin K) := ok_ljoin T.LJoin T.mlen T.mrange
  have GNames : FnOk P w K mg base CX0 1 T.fNames T.dNames ["hall"] (spNames K) := ok_names T.Names
  have GAlike : FnG P w K mg base 1 T.fAlike T.dAlike ["found", "due"] (spAlike K) := ok_alike T.Alike T.mrepr
  have bl : bootBuiltins "list" = some (.type "list") := by decide +kernel
  have bt : bootBuiltins "tuple" = some (.type "tuple") := by decide +kernel
  have br : bootBuiltins "repr" = some (.builtin "repr") := by decide +kernel
  have nd := scLaw.nd
  refine okG F scLaw (fun vs H Q E h => ?_) (fun cdv A outer s H vs Q E hr gd h => ?_)
  · obtain ⟨a, ns, rfl, _⟩ := h
    rfl
  · obtain ⟨a, ns, rfl, sq, few, fin⟩ := h
    have hr1 : Room 1 _ := hr.mono (by decide)
    have hr2 : Room 2 _ := hr.mono (by decide)
    have hr3 : Room 3 _ := hr.mono (by decide)
    have hr4 : Room 4 _ := hr.mono (by decide)
    have hr5 : Room 5 _ := hr.mono (by decide)
    refine ⟨_, pss_cons (ps_set (i := 1) nd rfl (Or.inl rfl) (pe_call GBag hr1 (by rfl) T.Bag.g T.Bag.fn.kp T.Bag.b .nil pass0 (pa_cons (pv 0) pa_nil)))
      (pss_cons (ps_set (i := 2) nd rfl (Or.inl rfl) (pe_call GAny hr5 (by rfl) T.Any.g T.Any.fn.kp T.Any.b .nil pass0 (pa_cons (pv 1) pa_nil)))
      (pss_cut (ps_set (i := 3) nd rfl (Or.inl rfl) (pe_op op_cat (pe_op op_cat (pe_callTy call_list_of (by rfl) T.mlist bl (pa_cons (pe_ix ix_tup (pv 2) pe_int (fun _ _ => rfl)) pa_nil))
          (pe_callTy call_list_of (by rfl) T.mlist bl (pa_cons (pe_ix ix_tup (pv 2) pe_int (fun _ _ => rfl)) pa_nil))) (pe_lst (pa_cons (pe_ix ix_tup (pv 2) pe_int (fun _ _ => rfl)) pa_nil))))
        (pss_cut (ps_for PassesOwn.never rfl (pi_tup (pe_ix ix_tup (pv 2) pe_int (fun _ _ => rfl))) (pg_name (i := 4) nd rfl (Or.inl rfl))
          (pss_one (ps_expr (pe_bm PySem.F.plainAttrs_list PySem.F.slot_list_extend PySem.F.type_list_extend mt_extendT (pv 3) (pa_cons (pe_ix ix_tup (pv 4) pe_int (fun _ _ => rfl)) pa_nil)))))
      (pss_cut (ps_for PassesOwn.never rfl (pi_range1 (by rfl) T.mrange (pa_cons pe_int pa_nil)) (pg_name (i := 5) nd rfl (Or.inl rfl))
        (pss_cons (ps_set (i := 6) nd rfl (Or.inl rfl) (pe_call GSome hr2 (by rfl) T.Some_.g T.Some_.fn.kp T.Some_.b .nil pass0 (pa_cons (pv 1) (pa_cons (pv 3) pa_nil))))
        (pss_cut (ps_set (i := 7) nd rfl (Or.inl rfl) (pe_call GSome hr2 (by rfl) T.Some_.g T.Some_.fn.kp T.Some_.b .nil pass0 (pa_cons (pv 1) (pa_cons (pe_lst
            (pa_cons (pe_call GNear hr3 (by rfl) T.Near.g T.Near.fn.kp T.Near.b .nil pass0 (pa_cons (pv 1) pa_nil)) (pa_cons (pe_call GNear hr3 (by rfl) T.Near.g T.Near.fn.kp T.Near.b .nil pass0 (pa_cons (pv 1) pa_nil))
            (pa_cons (pv 6) (pa_cons (pe_call GBent hr (by rfl) T.Bent.g T.Bent.fn.kp T.Bent.b .nil pass0 (pa_cons (pv 1) (pa_cons (pv 6) (pa_cons pe_int pa_nil))))
            (pa_cons (pe_call GOdd hr3 (by rfl) T.Odd.g T.Odd.fn.kp T.Odd.b .nil pass0 (pa_cons (pv 1) pa_nil)) pa_nil)))))) pa_nil))))
        (pss_cons (ps_set (i := 8) nd rfl (Or.inl rfl) (pe_callB (call_reprD hr.units gd) (by rfl) T.mrepr br (pa_cons (pv 7) pa_nil)))
        (pss_cut (ps_set (i := 9) nd rfl (Or.inl rfl) (pe_lst (pa_cons (pe_call GLInt hr1 (by rfl) T.LInt.g T.LInt.fn.kp T.LInt.b .nil pass0 (pa_cons (pv 7) pa_nil))
            (pa_cons (pe_call GAbove hr2 (by rfl) T.Above.g T.Above.fn.kp T.Above.b .nil pass0 (pa_cons (pv 7) (pa_cons pe_int pa_nil))) (pa_cons (pe_call GLName hr1 (by rfl) T.LName.g T.LName.fn.kp T.LName.b .nil pass0 (pa_cons (pv 7) pa_nil))
            (pa_cons (pe_call GLFrac hr3 (by rfl) T.LFrac.g T.LFrac.fn.kp T.LFrac.b .nil pass0 (pa_cons (pv 7) pa_nil)) pa_nil))))))
        (pss_cut (ps_expr (pe_bm PySem.F.plainAttrs_list PySem.F.slot_list_extend PySem.F.type_list_extend mt_extend (pv 9) (pa_cons (pe_lst (pa_cons (pe_call GLPur hr3 (by rfl) T.LPur.g T.LPur.fn.kp T.LPur.b .nil pass0 (pa_cons (pv 7) pa_nil))
            (pa_cons (pe_call GLMach hr4 (by rfl) T.LMach.g T.LMach.fn.kp T.LMach.b .nil pass0 (pa_cons (pv 7) pa_nil)) (pa_cons (pe_call GLBelt hr3 (by rfl) T.LBelt.g T.LBelt.fn.kp T.LBelt.b .nil pass0 (pa_cons (pv 7) pa_nil)) pa_nil)))) pa_nil)))
        (pss_cut (ps_set (i := 10) nd rfl (Or.inl rfl) (pe_lst (pa_cons (pe_call GInt hr1 (by rfl) T.Int_.g T.Int_.fn.kp T.Int_.b .nil pass0 (pa_cons (pv 7) pa_nil))
            (pa_cons (pe_call GCnt hr2 (by rfl) T.Cnt.g T.Cnt.fn.kp T.Cnt.b .nil pass0 (pa_cons (pv 7) pa_nil)) (pa_cons (pe_call GNam hr1 (by rfl) T.Nam.g T.Nam.fn.kp T.Nam.b .nil pass0 (pa_cons (pv 7) pa_nil))
            (pa_cons (pe_call GFrac hr3 (by rfl) T.Frac.g T.Frac.fn.kp T.Frac.b .nil pass0 (pa_cons (pv 7) pa_nil)) pa_nil))))))
        (pss_cut (ps_expr (pe_bm PySem.F.plainAttrs_list PySem.F.slot_list_extend PySem.F.type_list_extend mt_extend (pv 10) (pa_cons (pe_lst (pa_cons (pe_call GPur hr3 (by rfl) T.Pur.g T.Pur.fn.kp T.Pur.b .nil pass0 (pa_cons (pv 7) pa_nil))
            (pa_cons (pe_call GMach hr5 (by rfl) T.Mach.g T.Mach.fn.kp T.Mach.b .nil pass0 (pa_cons (pv 7) pa_nil)) (pa_cons (pe_call GBelt hr3 (by rfl) T.Belt.g T.Belt.fn.kp T.Belt.b .nil pass0 (pa_cons (pv 7) pa_nil)) pa_nil)))) pa_nil)))
        (pss_one (ps_if (PW.pt (pw_or (pt_not (pt_val (callG GAlike hr1 gd (by rfl) T.Alike.g T.Alike.fn.kp T.Alike.b (pa_cons (pv 10) (pa_cons (pv 9) pa_nil)))))
          (pw_or1 (pt_cmpR op_ne (pe_callB (call_reprD hr.units gd) (by rfl) T.mrepr br (pa_cons (pv 7) pa_nil)) (pv 8) (nomark _))))) pss_never pss_nil))))))))))
      (pss_cut (ps_set (i := 11) nd rfl (Or.inl rfl) (pe_callTy call_tuple_of (by rfl) T.mtuple bt (pa_cons (pe_call GNames hr1 (by rfl) T.Names.g T.Names.fn.kp T.Names.b .nil pass0 (pa_cons (pv 2) pa_nil)) pa_nil)))
      (pss_cons (ps_for PassesOwn.never rfl (pi_range1 (by rfl) T.mrange (pa_cons pe_int pa_nil)) (pg_name (i := 5) nd rfl (Or.inl rfl))
        (pss_cons (ps_set (i := 12) nd rfl (Or.inl rfl) (pe_callTy call_tuple_of (by rfl) T.mtuple bt (pa_cons (pe_slice sl_list (pe_call GMix hr2 (by rfl) T.Mix.g T.Mix.fn.kp T.Mix.b .nil pass0 (pa_cons (pv 1) (pa_cons (pe_callTy call_list_of (by rfl) T.mlist bl (pa_cons (pe_ix ix_tup (pv 2) pe_int (fun _ _ => rfl)) pa_nil)) pa_nil)))
            po_none (po_some (pe_call GTake hr1 (by rfl) T.Take.g T.Take.fn.kp T.Take.b .nil pass0 (pa_cons (pv 1) (pa_cons (pe_op op_add (pe_callB call_len_seq (by rfl) T.mlen PySem.boot_len (pa_cons (pe_ix ix_tup (pv 2) pe_int (fun _ _ => rfl)) pa_nil)) pe_int) pa_nil))))) pa_nil)))
        (pss_cons (ps_set (i := 13) nd rfl (Or.inl rfl) (pe_call GSome hr2 (by rfl) T.Some_.g T.Some_.fn.kp T.Some_.b .nil pass0 (pa_cons (pv 1) (pa_cons (pv 11) pa_nil))))
        (pss_one (ps_if (pt_not (pt_val (callG GAlike hr1 gd (by rfl) T.Alike.g T.Alike.fn.kp T.Alike.b (pa_cons (pe_call GJoin hr1 (by rfl) T.Join.g T.Join.fn.kp T.Join.b .nil pass0 (pa_cons (pv 11) (pa_cons (pv 12) (pa_cons (pv 13) pa_nil))))
          (pa_cons (pe_call GLJoin hr1 (by rfl) T.LJoin.g T.LJoin.fn.kp T.LJoin.b .nil pass0 (pa_cons (pv 11) (pa_cons (pv 12) (pa_cons (pv 13) pa_nil)))) pa_nil))))) pss_never pss_nil)))))
      (pss_one (ps_ret pe_bl)))))))), ?_⟩
    refine ⟨_, rfl, a, ns, rfl, sq, few, fun G1 b s1 b0 bag1 => ?_⟩
    refine ⟨_, rfl, b, rfl, bag1, fun G2 r h most but2 rb dth ok m6 len5 => ?_⟩
    have bag2 := bag1.but but2
    obtain ⟨pm, pb, mv, bv, ha⟩ := HallAt.of dth
    have mlen : mv.length = h.ms.length := by rw [dats_len ha.md, List.length_map]
    have blen : bv.length = h.bs.length := by rw [dats_len ha.bd, List.length_map]
    have fewB := ok.fewB
    have parts := ha.parts ok m6
    -- parts
    refine ⟨fun σ' G => ∃ p4 : Addr, σ' = ([some (.ref a), some (.ref b), some (.ref r), some (.ref p4), none, none, none, none, none, none, none, none, none, none] : L2.St) ∧ But b G2 G ∧ G2 p4 = none ∧ p4 ≠ b ∧ G p4 = some (.lst (mv ++ bv ++ [.str h.fl])), ?_, ?_⟩
    · refine ⟨_, rfl, r, _, 0, _, rfl, rfl, sqt_out ha.r, rfl, pm, mv, rfl, .inr (sqt_out ha.m), fun l0 nl0 => ?_⟩
      have t0 : Same G2 (upd G2 l0 (.lst mv)) := same_upd1 nl0
      refine ⟨_, rfl, r, _, 1, _, rfl, rfl, sqt_up t0 (sqt_out ha.r), rfl, pb, bv, rfl, .inr (sqt_up t0 (sqt_out ha.bl)), fun l1 nl1 => ?_⟩
      have at0 : upd G2 l0 (.lst mv) l0 = some (.lst mv) := upd_same
      generalize upd G2 l0 (.lst mv) = Ga at t0 at0 nl1
      have t1 : Same Ga (upd Ga l1 (.lst bv)) := same_upd1 nl1
      refine ⟨l0, l1, mv, bv, rfl, rfl, t1 _ _ at0, upd_same, len_line (by omega), fun l2 nl2 => ?_⟩
      generalize upd Ga l1 (.lst bv) = Gb at t1 nl2
      have t2 : Same Gb (upd Gb l2 (.lst (mv ++ bv))) := same_upd1 nl2
      have at2 : upd Gb l2 (.lst (mv ++ bv)) l2 = some (.lst (mv ++ bv)) := upd_same
      generalize upd Gb l2 (.lst (mv ++ bv)) = Gc at t2 at2
      have t012 := t0.trans (t1.trans t2)
      refine ⟨_, rfl, r, _, 2, _, rfl, rfl, sqt_up t012 (sqt_out ha.r), rfl, len_line (by show 1 ≤ 100000; decide), fun l3 nl3 => ?_⟩
      have t3 : Same Gc (upd Gc l3 (.lst [.str h.fl])) := same_upd1 nl3
      refine ⟨l2, l3, _, _, rfl, rfl, t3 _ _ at2, upd_same, len_line (by rw [List.length_append]; show _ + _ + 1 ≤ _; omega), fun l4 nl4 => ?_⟩
      generalize upd Gc l3 (.lst [.str h.fl]) = Gd at t3 nl4
      have t4 := t012.trans t3
      have n4 := But.free (But.of t4) (bag2.same t4) nl4
      exact ⟨l4, rfl, But.of (t4.trans (same_upd1 nl4)), n4.2, n4.1, upd_same⟩
    rintro _ Ge ⟨p4, rfl, butE, p40, p4b, at4⟩
    -- purses
    refine ⟨fun σ' G => ∃ (v4 : Option V) (xs : List V), σ' = ([some (.ref a), some (.ref b), some (.ref r), some (.ref p4), v4, none, none, none, none, none, none, none, none, none] : L2.St) ∧ But b G2 G ∧ G p4 = some (.lst xs) ∧ (∀ v ∈ xs, PartV K b G2 v) ∧ xs.length ≤ 1000 ∧ 0 < xs.length, ?_, ?_⟩
    · refine ⟨_, rfl, r, _, 0, _, rfl, rfl, sqt_out (ha.but butE).r, rfl, pm, rfl, ⟨_, sqt_out (ha.but butE).m⟩, ?_⟩
      refine for_tup (K := K) (a := pm) (xs := mv) (fun i σ' G => ∃ (v4 : Option V) (xs : List V), σ' = ([some (.ref a), some (.ref b), some (.ref r), some (.ref p4), v4, none, none, none, none, none, none, none, none, none] : L2.St) ∧ But b G2 G ∧ G p4 = some (.lst xs) ∧ (∀ v ∈ xs, PartV K b G2 v) ∧ xs.length ≤ 100 + 2 * i ∧ 0 < xs.length)
        ⟨none, _, rfl, butE, at4, parts, by simp only [List.length_append]; show _ + _ + 1 ≤ _; omega, by simp only [List.length_append]; show 0 < _ + 1; omega⟩ (fun i σ' G _ ⟨_, _, _, s, _⟩ => sqt_out (ha.but s).m) ?_ ?_
      · rintro i v _ G at_i ⟨v4, xs, rfl, butG, atG, px, lx, px0⟩
        obtain ⟨m, t, p, pv, em, rfl, sqt, sqp, dp⟩ := mach_at i v ha.md at_i
        have lt : i < h.ms.length := (List.getElem?_eq_some_iff.mp em).1
        have mm : m ∈ h.ms := List.mem_of_getElem? em
        obtain ⟨_, _, pu2, puo⟩ := ok.ms m mm
        have pl : pv.length = m.2.2.length := by rw [dats_len dp, List.length_map]
        refine ⟨_, rfl, .inl ⟨rfl, _, SqL.of atG⟩, _, rfl, t, _, 2, _, rfl, rfl, sqt_out (sqt_up (del_but butG) sqt), rfl, p4, p, xs, pv, rfl, rfl, atG, sqt_out (sqt_up (del_but butG) sqp), len_line (by omega), ?_⟩
        refine ⟨_, xs ++ pv, rfl, butG.put p40 p4b, upd_same, fun v mv' => ?_, by rw [List.length_append]; omega, by rw [List.length_append]; omega⟩
        rcases List.mem_append.mp mv' with q | q
        · exact px v q
        · obtain ⟨d, td, pd⟩ := dats_part dp (fun x mx => pair_plain (puo x mx) m6) v q
          exact ⟨d, td, pd.is, by have := pd.wgt; omega, by have := pd.deep; omega⟩
      · rintro _ G ⟨v4, xs, rfl, butG, atG, px, lx, px0⟩
        exact ⟨v4, xs, rfl, butG, atG, px, by omega, px0⟩
    rintro _ G3 ⟨v4, xs, rfl, but3, at3, px, lx, px0⟩
    have ha3 := ha.but but3
    have bag3 := bag2.but but3
    have px3 : ∀ v ∈ xs, PartV K b G3 v := fun v m => (px v m).but but3
    clear at4 parts butE but2 dth px
    -- the forms
    refine ⟨fun σ' G => ∃ (v4 v5 v6 v7 v8 v9 v10 : Option V), σ' = ([some (.ref a), some (.ref b), some (.ref r), some (.ref p4), v4, v5, v6, v7, v8, v9, v10, none, none, none] : L2.St) ∧ But b G3 G, ?_, ?_⟩
    · refine ⟨24, rfl, by decide, by decide, ?_⟩
      refine for_range (lo := 0) (n := 24) (fun i σ' G => ∃ (v4 v5 v6 v7 v8 v9 v10 : Option V), σ' = ([some (.ref a), some (.ref b), some (.ref r), some (.ref p4), v4, v5, v6, v7, v8, v9, v10, none, none, none] : L2.St) ∧ But b G3 G) ⟨_, _, _, _, _, _, _, rfl, But.refl b G3⟩ ?_ (fun σ' G p => p)
      rintro i _ G _ ⟨w4, w5, w6, w7, w8, w9, w10, rfl, butG⟩
      have bagG := bag3.but butG
      refine ⟨_, rfl, _, rfl, b, p4, xs, rfl, bagG, .inl (SqL.of (butG.1 _ _ p4b at3)), p4b, px0, by omega, fun G4 v mem but4 bag4 => ?_⟩
      have but34 := butG.trans but4
      obtain ⟨dv, tv, pv⟩ := (px3 v mem).but but34
      refine ⟨fun σ' G => ∃ (v7 : V) (d : PyData), σ' = ([some (.ref a), some (.ref b), some (.ref r), some (.ref p4), w4, some (.int (0 + (i : Nat))), some v, some v7, w8, w9, w10, none, none, none] : L2.St) ∧ But b G3 G ∧ Dt K b G v7 d ∧ Fit 100000 10 d, ?_, ?_⟩
      · refine ⟨_, rfl, _, rfl, b, rfl, bag4, fun H1 n1 e1 u1 g1 t1 f1 => ?_⟩
        refine ⟨_, rfl, b, rfl, g1, fun H2 n2 e2 u2 g2 t2 f2 => ?_⟩
        have u12 := u1.trans u2
        refine ⟨_, rfl, _, rfl, _, rfl, b, v, dv, 9700, 3, rfl, g2, tv.but u12, pv, by decide, fun H3 n3 e3 u3 g3 t3 f3 => ?_⟩
        refine ⟨_, rfl, b, rfl, g3, fun H4 n4 e4 u4 g4 it4 f4 => ⟨len_line (by show 5 ≤ 100000; decide), fun p np => ?_⟩⟩
        have pb' := (But.free (But.refl b H4) g4 np).1
        refine ⟨b, p, _, rfl, g4.new np, .inl (SqL.of upd_same), pb', by show 0 < 5; decide, by show 5 < 1073741824; decide, fun H5 x mem5 but5 bag5 => ?_⟩
        have v5 := ((But.refl b H4).new (o := .lst [n1, n2, v, n3, n4]) np).trans but5
        have all5 := but34.trans (u12.trans (u3.trans (u4.trans v5)))
        simp only [List.mem_cons, List.not_mem_nil, or_false] at mem5
        rcases mem5 with e | e | e | e | e <;> subst e
        · exact ⟨_, e1, rfl, all5, t1.but (u2.trans (u3.trans (u4.trans v5))), f1⟩
        · exact ⟨_, e2, rfl, all5, t2.but (u3.trans (u4.trans v5)), f2⟩
        · exact ⟨_, dv, rfl, all5, tv.but (u12.trans (u3.trans (u4.trans v5))), pv.fit.more (by decide) (by decide)⟩
        · exact ⟨_, e3, rfl, all5, t3.but (u4.trans v5), f3.more (by decide) (by decide)⟩
        · exact ⟨_, e4, rfl, all5, (odd_dt g3 it4).but v5, f4.more (by decide) (by decide)⟩
      rintro _ G5 ⟨v7, d, rfl, but5, dt, fit⟩
      have bag5 := bag3.but but5
      obtain ⟨sh, deep⟩ := fit.shows (by decide) (by decide)
      have dat5 : Dat K G5 v7 d := dt.dat
      refine ⟨_, rfl, v7, d, rfl, dat5, sh, deep, ?_⟩
      -- due
      refine ⟨fun σ' G => ∃ p9 : Addr, σ' = ([some (.ref a), some (.ref b), some (.ref r), some (.ref p4), w4, some (.int (0 + (i : Nat))), some v, some v7, some (.str d.shown), some (.ref p9), w10, none, none, none] : L2.St) ∧ Same G5 G ∧ G5 p9 = none ∧ G p9 = some (.lst ([isInt d, isAbove 0 d, isName d, isFrac d].map V.bl)), ?_, ?_⟩
      · refine ⟨_, rfl, v7, d, rfl, dat5, fun H1 s1 => ⟨_, rfl, _, d, 0, rfl, Dat.up s1 dat5, fun H2 s2 => ?_⟩⟩
        have s12 := s1.trans s2
        refine ⟨_, rfl, v7, d, rfl, Dat.up s12 dat5, txt_ok fit.txt, fun H3 s3 => ⟨_, rfl, v7, d, rfl, Dat.up (s12.trans s3) dat5, fun H4 s4 => ⟨len_line (by show 4 ≤ 100000; decide), fun p np => ?_⟩⟩⟩
        have s14 := (s12.trans s3).trans s4
        exact ⟨p, rfl, s14.trans (same_upd1 np), s14.free np, upd_same⟩
      rintro _ G6 ⟨p9, rfl, s6, p90, at9⟩
      refine ⟨fun σ' G => σ' = ([some (.ref a), some (.ref b), some (.ref r), some (.ref p4), w4, some (.int (0 + (i : Nat))), some v, some v7, some (.str d.shown), some (.ref p9), w10, none, none, none] : L2.St) ∧ Same G5 G ∧ G p9 = some (.lst ((told d).map V.bl)), ?_, ?_⟩
      · refine ⟨_, rfl, .inl ⟨rfl, _, SqL.of at9⟩, _, rfl, v7, d, rfl, Dat.up s6 dat5, fun H1 s1 => ?_⟩
        have s61 := s6.trans s1
        refine ⟨_, rfl, v7, d, rfl, Dat.up s61 dat5, fit.txt, fit.wgt, fun H2 s2 => ⟨_, rfl, v7, d, rfl, Dat.up (s61.trans s2) dat5, fit.txt, fit.wgt, fun H3 s3 => ⟨len_line (by show 3 ≤ 100000; decide), fun p np => ?_⟩⟩⟩
        have s13 := (s1.trans s2).trans s3
        refine ⟨p9, p, _, _, rfl, rfl, (s13.trans (same_upd1 np)) _ _ at9, upd_same, len_line (by show 4 + 3 ≤ 100000; decide), ?_⟩
        exact ⟨rfl, same_set ((s6.trans s13).trans (same_upd1 np)) p90, upd_same⟩
      rintro _ G7 ⟨rfl, s7, at9⟩
      -- found
      refine ⟨fun σ' G => ∃ p10 : Addr, σ' = ([some (.ref a), some (.ref b), some (.ref r), some (.ref p4), w4, some (.int (0 + (i : Nat))), some v, some v7, some (.str d.shown), some (.ref p9), some (.ref p10), none, none, none] : L2.St) ∧ Same G7 G ∧ G7 p10 = none ∧ G p10 = some (.lst ([isInt d, isAbove 0 d, isName d, isFrac d].map V.bl)), ?_, ?_⟩
      · have dat7 := Dat.up s7 dat5
        refine ⟨_, rfl, v7, d, rfl, dat7, fun H1 s1 => ⟨_, rfl, v7, d, rfl, Dat.up s1 dat7, fun H2 s2 => ?_⟩⟩
        have s12 := s1.trans s2
        refine ⟨_, rfl, v7, d, rfl, Dat.up s12 dat7, txt_line fit.txt, fun H3 s3 => ⟨_, rfl, v7, d, rfl, Dat.up (s12.trans s3) dat7, fit.ints, fun H4 s4 => ⟨len_line (by show 4 ≤ 100000; decide), fun p np => ?_⟩⟩⟩
        have s14 := (s12.trans s3).trans s4
        exact ⟨p, rfl, s14.trans (same_upd1 np), s14.free np, upd_same⟩
      rintro _ G8 ⟨p10, rfl, s8, p100, at10⟩
      refine ⟨fun σ' G => σ' = ([some (.ref a), some (.ref b), some (.ref r), some (.ref p4), w4, some (.int (0 + (i : Nat))), some v, some v7, some (.str d.shown), some (.ref p9), some (.ref p10), none, none, none] : L2.St) ∧ Same G7 G ∧ G p10 = some (.lst ((told d).map V.bl)), ?_, ?_⟩
      · have dat8 := Dat.up (s7.trans s8) dat5
        refine ⟨_, rfl, .inl ⟨rfl, _, SqL.of at10⟩, _, rfl, v7, d, rfl, dat8, fun H1 s1 => ?_⟩
        refine ⟨_, rfl, v7, d, rfl, Dat.up s1 dat8, fit.txt, fit.wgt, fun H2 s2 => ⟨_, rfl, v7, d, rfl, Dat.up (s1.trans s2) dat8, fit.txt, fit.wgt, fun H3 s3 => ⟨len_line (by show 3 ≤ 100000; decide), fun p np => ?_⟩⟩⟩
        have s13 := (s1.trans s2).trans s3
        refine ⟨p10, p, _, _, rfl, rfl, (s13.trans (same_upd1 np)) _ _ at10, upd_same, len_line (by show 4 + 3 ≤ 100000; decide), ?_⟩
        exact ⟨rfl, same_set ((s8.trans s13).trans (same_upd1 np)) p100, upd_same⟩
      rintro _ G9 ⟨rfl, s9, at10⟩
      have s59 := s7.trans s9
      have dat9 := Dat.up s59 dat5
      obtain ⟨ts, td⟩ := told_shows d
      refine ⟨_, rfl, _, rfl, .ref p10, .ref p9, .list ((told d).map PyData.bool), rfl, .lst (SqL.of at10) (told_dat _), .lst (SqL.of (s9 _ _ at9)) (told_dat _), ts, td, true, rfl, iteF ?_⟩
      refine ⟨_, rfl, v7, d, rfl, dat9, sh, deep, _, rfl, rfl, _, rfl, ?_⟩
      have e : (!decide (V.str d.shown = V.str d.shown)) = false := by
        rw [decide_eq_true rfl]
        rfl
      rw [e]
      exact iteF ⟨_, _, _, _, _, _, _, rfl, but5.trans (But.of s59)⟩
    rintro _ G4 ⟨v4', v5, v6, v7, v8, v9, v10, rfl, but4⟩
    have ha4 := ha3.but but4
    have bag4 := bag3.but but4
    clear at3 px3 ha3 bag3 but3 ha bag2
    -- names
    have out : ∀ {G : Hp} (p : Addr) (o : HO), del G b p = some o → G p = some o := fun {G} p o e => by
      by_cases ne : p = b
      · rw [ne, del_same] at e
        cases e
      · rwa [del_ne ne] at e
    refine ⟨fun σ' G => ∃ pn : Addr, σ' = ([some (.ref a), some (.ref b), some (.ref r), some (.ref p4), v4', v5, v6, v7, v8, v9, v10, some (.ref pn), none, none] : L2.St) ∧ But b G4 G ∧ pn ≠ b ∧ G pn = some (.tup ((h.ms.map (·.1)).map V.str)), ?_, ?_⟩
    · refine ⟨_, rfl, r, pm, _, mv, h.ms, rfl, sqt_out ha4.r, sqt_out ha4.m, DatAll.up out ha4.md, by omega, fun H1 q s1 q0 at_q => ⟨q, _, rfl, .inl ⟨SqL.of at_q, fun l nl => ?_⟩⟩⟩
      have lb := (But.free (But.of s1) (bag4.same s1) nl).1
      exact ⟨l, rfl, But.of (s1.trans (same_upd1 nl)), lb, upd_same⟩
    rintro _ G5 ⟨pn, rfl, but5, pnb, atn⟩
    have ha5 := ha4.but but5
    have bag5 := bag4.but but5
    have names_len : ((h.ms.map (·.1)).map V.str).length = h.ms.length := by rw [List.length_map, List.length_map]
    obtain ⟨pace, mpace, _⟩ := ok.pace
    have mpos : 0 < h.ms.length := List.length_pos_of_mem mpace
    refine ⟨6, rfl, by decide, by decide, ?_⟩
    refine for_range (lo := 0) (n := 6) (fun i σ' G => ∃ (v5 v12 v13 : Option V), σ' = ([some (.ref a), some (.ref b), some (.ref r), some (.ref p4), v4', v5, v6, v7, v8, v9, v10, some (.ref pn), v12, v13] : L2.St) ∧ But b G5 G) ⟨_, _, _, rfl, But.refl b G5⟩ ?_ ?_
    · rintro i _ G _ ⟨w5, w12, w13, rfl, butG⟩
      have haG := ha5.but butG
      have bagG := bag5.but butG
      refine ⟨_, rfl, _, rfl, r, _, 1, _, rfl, rfl, sqt_out haG.r, rfl, pb, bv, rfl, .inr (sqt_out haG.bl), fun l nl => ?_⟩
      have lb := (But.free (But.refl b G) bagG nl).1
      refine ⟨b, l, bv, rfl, bagG.new nl, SqL.of upd_same, lb, by omega, fun H2 q ys but2 bag2 q0 qb at_q perm => ?_⟩
      have bG2 := ((But.refl b G).new (o := .lst bv) nl).trans but2
      have ha2 := haG.but bG2
      refine ⟨_, rfl, _, rfl, r, _, 1, _, rfl, rfl, sqt_out ha2.r, rfl, pb, bv, rfl, .inr (sqt_out ha2.bl), _, _, rfl, rfl, b, _, rfl, bag2, by omega, by omega, fun H3 k but3 bag3 k0 k1 => ⟨k, rfl, q, ys, rfl, SqL.of (but3.1 _ _ qb at_q), fun c nc => ?_⟩⟩
      obtain ⟨k, rfl⟩ := Int.eq_ofNat_of_zero_le k0
      have yl : ys.length = bv.length := perm.length_eq
      refine ⟨c, _, rfl, .inl ⟨SqL.of upd_same, fun t nt => ?_⟩⟩
      rw [cut_first ys k (by omega)] at nt ⊢
      have s4 : Same H3 (upd (upd H3 c (.lst (ys.take k))) t (.tup (ys.take k))) := (same_upd1 nc).trans (same_upd1 nt)
      have bag4' := bag3.same s4
      have bG4 := bG2.trans (but3.trans (But.of s4))
      have at_t : upd (upd H3 c (.lst (ys.take k))) t (.tup (ys.take k)) t = some (.tup (ys.take k)) := upd_same
      have tb : t ≠ b := (But.free (But.refl b _) (bag3.same (same_upd1 nc)) nt).1
      generalize upd (upd H3 c (.lst (ys.take k))) t (.tup (ys.take k)) = H4 at s4 bag4' bG4 at_t
      have atn4 : H4 pn = some (.tup ((h.ms.map (·.1)).map V.str)) := (butG.trans bG4).1 _ _ pnb atn
      refine ⟨_, rfl, _, rfl, b, pn, _, rfl, bag4', .inr (SqT.of atn4), pnb, by rw [names_len]; exact mpos, by rw [names_len]; omega, fun H5 v mem but5' bag5' => ?_⟩
      obtain ⟨x, mx, rfl⟩ := List.mem_map.mp mem
      have ha5' := (haG.but bG4).but but5'
      obtain ⟨cs, pcs, dys⟩ := dats_perm perm ha5'.bd
      have dk : DatAll K (del H5 b) (ys.take k) ((cs.take k).map beltD) := by
        have := dats_take k dys
        rwa [← List.map_take] at this
      have sub : ∀ m ∈ cs.take k, m ∈ h.bs := fun m mm => pcs.mem_iff.mp (List.mem_of_mem_take mm)
      have fa : ∀ (H6 : Hp), Same H5 H6 → SqT K H6 pn ((h.ms.map (·.1)).map V.str) ∧ SqT K H6 t (ys.take k) ∧ DatAll K H6 (ys.take k) ((cs.take k).map beltD) := fun H6 s =>
        ⟨sqt_up s (SqT.of (but5'.1 _ _ pnb atn4)), sqt_up s (SqT.of (but5'.1 _ _ tb at_t)), DatAll.up s (DatAll.up out dk)⟩
      have ends : ∀ m ∈ cs.take k, m.1 ∈ h.ms.map (·.1) ∧ m.2.1 ∈ h.ms.map (·.1) := fun m mm => ⟨(ok.bs m (sub m mm)).2.1, (ok.bs m (sub m mm)).2.2.1⟩
      have l1 : (h.ms.map (·.1)).length ≤ 100 := by rw [List.length_map]; omega
      have l2 : (cs.take k).length ≤ 100 := by rw [List.length_take, pcs.length_eq]; omega
      obtain ⟨q1, q2, q3⟩ := fa H5 (Same.refl H5)
      refine ⟨_, rfl, _, rfl, _, rfl, pn, t, h.ms.map (·.1), ys.take k, cs.take k, x, rfl, q1, q2, q3, ok.nodup, ends, mx, l1, l2, fun H6 r1 s6 iff1 => ?_⟩
      obtain ⟨q4, q5, q6⟩ := fa H6 s6
      refine ⟨_, rfl, _, rfl, _, rfl, pn, t, h.ms.map (·.1), ys.take k, cs.take k, x, rfl, q4, q5, q6, ok.nodup, ends, mx, l1, l2, fun H7 r2 s7 iff2 => ?_⟩
      have e : r2 = r1 := by
        have := iff1.trans iff2.symm
        cases r1 <;> cases r2 <;> simp at this ⊢
      subst e
      refine ⟨.bl r2, .bl r2, .bool r2, rfl, .bl r2, .bl r2, Shows.of rfl (by show 5 ≤ 10000000; decide), Nat.zero_le _, true, rfl, iteF ?_⟩
      exact ⟨_, _, _, rfl, butG.trans (bG4.trans (but5'.trans (But.of (s6.trans s7))))⟩
    · rintro _ G ⟨w5, w12, w13, rfl, _⟩
      exact fin G
end
end K29

namespace Vd
open PySem PySem.Spec PyProof.Rows L2
/-! ### the law is called where no guard is around -/
section
variable {P : Program} {w : World} {K : PySem.W.Frag} {mg mb : Str → Option Value} {s : Shared} {H : Hp} {a : Addr} {vs : List Value}
/-- what stands beside the one list that is looked at -/
theorem around_one (inK : K.In s.heap) (gl : s.heap.Ns mainGlobals mg) (bn : s.heap.Ns builtinsNs mb) (bv : ∀ y : Str, y ≠ "__name__" → mb y = bootBuiltins y) (free : s.heap.NoLimit) (none_yet : s.gens = #[])
    (at_a : s.heap.get? a = some { cls := .type "list", data := .seq vs.toArray }) (good : HOk P w H s.heap) (one : ∀ b, b ≠ a → H b = none) (apart : (∃ u, H a = some u) → K.lookup a = none) :
    K.In (hidT s.heap H) ∧ (hidT s.heap H).Ns mainGlobals mg ∧ Env0 P w K mg (hidT s.heap H) callerA [] s H := by
  have dict_free : ∀ {b : Addr} {o : Obj} {es : Array DictEntry} {n : Nat}, s.heap.get? b = some o → o.data = .dict es n → H b = none := fun {b o es n} there isD =>
    one b fun same => by
      subst same
      rw [at_a] at there
      cases there
      have no : Data.seq vs.toArray _ = Data.dict es n := isD
      cases no
  have spaces : ∀ {b : Addr} {f : Str → Option Value}, s.heap.Ns b f → (hidT s.heap H).Ns b f := fun {b f} h => by
    obtain ⟨o, es, n, there, isD, rest⟩ := h
    exact ⟨o, es, n, hidT_get there (dict_free there isD), isD, rest⟩
  have written : K.In (hidT s.heap H) := fun b o look => by
    refine hidT_get (inK b o look) ?_
    by_cases same : b = a
    · cases seen : H b with
      | none => rfl
      | some u =>
        subst same
        rw [apart ⟨u, seen⟩] at look
        cases look
    · exact one b same
  obtain ⟨ml, lim1, lim2⟩ := free
  exact ⟨written, spaces gl, ⟨rfl, ⟨written, spaces gl, ⟨mb, spaces bn, bv⟩, ⟨ml, spaces lim1, lim2⟩⟩, fun b o z => of_hidT z, Nat.le_of_eq (hidT_size _ _), trivial,
    fun b no => absurd (show b ∈ ([] : List Addr) from no) (List.not_mem_nil), good, .of_eq none_yet⟩⟩
variable {k : Nat} {fa : Addr} {fd : FuncData} {x : Str} {sp : Sp} {ns : List Int}
theorem run_one (inK : K.In s.heap) (gl : s.heap.Ns mainGlobals mg) (bn : s.heap.Ns builtinsNs mb) (bv : ∀ y : Str, y ≠ "__name__" → mb y = bootBuiltins y) (free : s.heap.NoLimit) (none_yet : s.gens = #[])
    (at_a : s.heap.get? a = some { cls := .type "list", data := .seq vs.toArray }) (good : HOk P w H s.heap) (one : ∀ b, b ≠ a → H b = none) (apart : (∃ u, H a = some u) → K.lookup a = none) (only : Only H) (room : Room k callerA)
    (F : ∀ base : Heap, K.In base → base.Ns mainGlobals mg → FnG P w K mg base k fa fd [x] sp) (bind : ∀ (t : Shared) (u : Value), BindsTo t fd ⟨[u], []⟩ [(x, u)]) (ask : sp [.ref a] H (fun v _ => v = .bl true) E0) :
    codeAny (model P w) callerA (.call (.ref fa) ⟨[.ref a], []⟩) (fun r t => r = .ok (.ret (.bool true)) ∧ OldK s.heap t.heap ∧ t.os = s.os ∧ AllBare t.gens) s := by
  obtain ⟨written, glob, env⟩ := around_one inK gl bn bv free none_yet at_a good one apart
  refine codeAny_mono ((F _ written glob).go callerA [] s H ⟨[.ref a], []⟩ [.ref a] [.ref a] _ E0 room rfl env (bind s (.ref a)) (.cons rfl .nil) ask) fun r t got => ?_
  match r, got with
  | .ok (.ret u), ⟨v, H', os, bare, un, hok', rv, q⟩ =>
    have q' : v = .bl true := q
    subst q'
    cases (show u = Value.bool true from rv)
    refine ⟨rfl, OldK.of_keep fun b o there => ?_, os, bare⟩
    rcases only b with clear_ | ⟨ob, xs, frozen⟩
    · exact un.keep b o there clear_ (fun no => absurd (show b ∈ ([] : List Addr) from no) (List.not_mem_nil)) (List.not_mem_nil)
    · have before := (good b _ frozen).1
      have behind := (hok' b _ (un.frzs b ob _ frozen)).1
      rw [there] at before
      cases before
      exact behind
  | .ok .next, no => exact no.elim
  | .ok .brk, no => exact no.elim
  | .ok .cont, no => exact no.elim
  | .error _, no => exact no.elim
theorem run_law (inK : K.In s.heap) (gl : s.heap.Ns mainGlobals mg) (bn : s.heap.Ns builtinsNs mb) (bv : ∀ y : Str, y ≠ "__name__" → mb y = bootBuiltins y) (free : s.heap.NoLimit) (none_yet : s.gens = #[])
    (at_a : s.heap.get? a = some { cls := .type "list", data := .seq vs.toArray }) (isI : IntsAre vs ns) (few : ns.length ≤ sizeLine) (room : Room k callerA)
    (F : ∀ base : Heap, K.In base → base.Ns mainGlobals mg → FnG P w K mg base k fa fd [x] sp) (bind : ∀ (t : Shared) (u : Value), BindsTo t fd ⟨[u], []⟩ [(x, u)])
    (ask : ∀ H : Hp, SqL K H a (ns.map V.int) → sp [.ref a] H (fun v _ => v = .bl true) E0) :
    codeAny (model P w) callerA (.call (.ref fa) ⟨[.ref a], []⟩) (fun r t => r = .ok (.ret (.bool true)) ∧ OldK s.heap t.heap ∧ t.os = s.os ∧ AllBare t.gens) s := by
  have rel := vals_ints isI
  have same := isI.length
  cases look : K.lookup a with
  | none =>
    let seen : Hp := fun b => if b = a then some (.frz { cls := .type "list", data := .seq vs.toArray } (.lst (ns.map V.int))) else none
    have at_seen : seen a = some (.frz { cls := .type "list", data := .seq vs.toArray } (.lst (ns.map V.int))) := if_pos rfl
    have no_more : ∀ b, b ≠ a → seen b = none := fun b ne => if_neg ne
    refine run_one (H := seen) inK gl bn bv free none_yet at_a (fun b u e => ?_) no_more (fun _ => look) (fun b => ?_) room F bind (ask seen (.inl (.inr ⟨_, at_seen⟩)))
    · by_cases ne : b = a
      · subst ne
        rw [at_seen] at e
        cases e
        exact ⟨at_a, by rw [List.length_map]; exact few, vs, _, rel, at_a⟩
      · rw [no_more b ne] at e
        cases e
    · by_cases ne : b = a
      · exact .inr ⟨_, _, by rw [ne]; exact at_seen⟩
      · exact .inl (no_more b ne)
  | some o =>
    have there := inK a o look
    rw [at_a] at there
    cases there
    refine run_one (H := fun _ => none) inK gl bn bv free none_yet at_a (fun b u e => nomatch e) (fun _ _ => rfl) (fun ⟨u, e⟩ => nomatch e) (fun _ => .inl rfl) room F bind (ask _ (.inr ⟨_, vs.toArray, _, look, rfl, rfl, rfl, ?_, ?_⟩))
    · rw [List.size_toArray, same]
      exact few
    · simpa using rel
end
/-- the head for a law that asks repr -/
theorem walkG {l : PySem.W.OpenLaw} {n k : Nat} {q : Program} {loose : List Str} {XP : (Str → Option Value) → Heap → Prop} {YP : World → Heap → Prop} {d : DefRec} {K : Params → PySem.W.Frag} {sp : PySem.W.Frag → Sp} {x : Str}
    (most : l.most = some n) (low : n ≤ sizeLine) (plain : d.params.defaults = []) (room : Room k callerA) (there : ∀ (w : World) (h : Heap), YP w h → (K w.params).In h)
    (F : ∀ (w : World) (mg : Str → Option Value) (fa : Addr) (h : Heap), (K w.params).In h → h.Ns mainGlobals mg → mg d.name = some (.ref fa) →
      ∃ fd : FuncData, (∀ (t : Shared) (u : Value), BindsTo t fd ⟨[u], []⟩ [(x, u)]) ∧ ∀ base : Heap, (K w.params).In base → base.Ns mainGlobals mg → FnG l.prog w (K w.params) mg base k fa fd [x] (sp (K w.params)))
    (ask : ∀ (K : PySem.W.Frag) (H : Hp) (a : Addr) (ns : List Int), ns.length ≤ n → SqL K H a (ns.map V.int) → sp K [.ref a] H (fun v _ => v = .bl true) E0) :
    PySem.W.WalkO q loose XP YP l.row.toRowW d [] (fun f vs => PySem.call f vs) := by
  refine Att.attach_call most plain fun w s0 s1 mg mb fa o pm cd doc a vs ns G Y _ _ _ at_f at_a isI few gens => ?_
  have inK := there w _ Y
  obtain ⟨fd, bind, ok⟩ := F w mg fa _ inK G.T.g at_f
  exact run_law inK G.T.g G.T.b G.T.builtins G.T.nolimit gens at_a isI (Nat.le_trans few low) room ok bind fun H sq => ask _ H a ns few sq
end Vd

namespace K29
open PySem PySem.Spec PyProof.Rows L2 Vd Evl
theorem kit_typ {K : PySem.W.Frag} {t : Value} {T : String} {b : Bool} (ne : (t == Value.type T) = false) (m : PySem.W.kitMeta T = true) (h : PySem.W.subIn K t (.type T) = some b) : PySem.W.kitOne K t (.type T) = some b := by
  unfold PySem.W.kitOne
  rw [if_neg (by rw [ne]; decide)]
  show (if PySem.W.kitMeta T = true then PySem.W.subIn K t (.type T) else none) = some b
  rw [if_pos m, h]
theorem kit_same {K : PySem.W.Frag} {T : String} : PySem.W.kitOne K (.type T) (.type T) = some true := by
  unfold PySem.W.kitOne
  rw [if_pos (by simp)]

theorem all_mk {P : Program} {w : World} {K : PySem.W.Frag} {h : Heap} {mg : Str → Option Value} {fa : Addr} (X : K.In h) (G : h.Ns mainGlobals mg) (hfa : mg "law" = some (.ref fa))
    {fRed : Addr} {odRed anRed : Option Addr} {slRed : Array (Option Value)} {ocRed kVRed dcRed pmRed cdRed ctRed : Value}
    {fTup : Addr} {odTup anTup : Option Addr} {slTup : Array (Option Value)} {ocTup kVTup dcTup pmTup cdTup ctTup : Value}
    {fInt_ : Addr} {odInt_ anInt_ : Option Addr} {slInt_ : Array (Option Value)} {ocInt_ kVInt_ dcInt_ pmInt_ cdInt_ ctInt_ : Value}
    {fCnt : Addr} {odCnt anCnt : Option Addr} {slCnt : Array (Option Value)} {ocCnt kVCnt dcCnt pmCnt cdCnt ctCnt : Value}
    {fPos : Addr} {odPos anPos : Option Addr} {slPos : Array (Option Value)} {ocPos kVPos dcPos pmPos cdPos ctPos : Value}
    {fNam : Addr} {odNam anNam : Option Addr} {slNam : Array (Option Value)} {ocNam kVNam dcNam pmNam cdNam ctNam : Value}
    {fFrac : Addr} {odFrac anFrac : Option Addr} {slFrac : Array (Option Value)} {ocFrac kVFrac dcFrac pmFrac cdFrac ctFrac : Value}
    {fPur : Addr} {odPur anPur : Option Addr} {slPur : Array (Option Value)} {ocPur kVPur dcPur pmPur cdPur ctPur : Value}
    {fPurs : Addr} {odPurs anPurs : Option Addr} {slPurs : Array (Option Value)} {ocPurs kVPurs dcPurs pmPurs cdPurs ctPurs : Value}
    {fMach : Addr} {odMach anMach : Option Addr} {slMach : Array (Option Value)} {ocMach kVMach dcMach pmMach cdMach ctMach : Value}
    {fBelt : Addr} {odBelt anBelt : Option Addr} {slBelt : Array (Option Value)} {ocBelt kVBelt dcBelt pmBelt cdBelt ctBelt : Value}
    {fJoin : Addr} {odJoin anJoin : Option Addr} {slJoin : Array (Option Value)} {ocJoin kVJoin dcJoin pmJoin cdJoin ctJoin : Value}
    {fBag : Addr} {odBag anBag : Option Addr} {slBag : Array (Option Value)} {ocBag kVBag dcBag pmBag cdBag ctBag : Value}
    {fTake : Addr} {odTake anTake : Option Addr} {slTake : Array (Option Value)} {ocTake kVTake dcTake pmTake cdTake ctTake : Value}
    {fSome_ : Addr} {odSome_ anSome_ : Option Addr} {slSome_ : Array (Option Value)} {ocSome_ kVSome_ dcSome_ pmSome_ cdSome_ ctSome_ : Value}
    {fMix : Addr} {odMix anMix : Option Addr} {slMix : Array (Option Value)} {ocMix kVMix dcMix pmMix cdMix ctMix : Value}
    {fAlike : Addr} {odAlike anAlike : Option Addr} {slAlike : Array (Option Value)} {ocAlike kVAlike dcAlike pmAlike cdAlike ctAlike : Value}
    {fLInt : Addr} {odLInt anLInt : Option Addr} {slLInt : Array (Option Value)} {ocLInt kVLInt dcLInt pmLInt cdLInt ctLInt : Value}
    {fNames : Addr} {odNames anNames : Option Addr} {slNames : Array (Option Value)} {ocNames kVNames dcNames pmNames cdNames ctNames : Value}
    {fLPurs : Addr} {odLPurs anLPurs : Option Addr} {slLPurs : Array (Option Value)} {ocLPurs kVLPurs dcLPurs pmLPurs cdLPurs ctLPurs : Value}
    {fFirst : Addr} {odFirst anFirst : Option Addr} {slFirst : Array (Option Value)} {ocFirst kVFirst dcFirst pmFirst cdFirst ctFirst : Value}
    {fWeb : Addr} {odWeb anWeb : Option Addr} {slWeb : Array (Option Value)} {ocWeb kVWeb dcWeb pmWeb cdWeb ctWeb : Value}
    {fOdd : Addr} {odOdd anOdd : Option Addr} {slOdd : Array (Option Value)} {ocOdd kVOdd dcOdd pmOdd cdOdd ctOdd : Value}
    {fBent : Addr} {odBent anBent : Option Addr} {slBent : Array (Option Value)} {ocBent kVBent dcBent pmBent cdBent ctBent : Value}
    {fLName : Addr} {odLName anLName : Option Addr} {slLName : Array (Option Value)} {ocLName kVLName dcLName pmLName cdLName ctLName : Value}
    {fAbove : Addr} {odAbove anAbove : Option Addr} {slAbove : Array (Option Value)} {ocAbove kVAbove dcAbove pmAbove cdAbove ctAbove : Value}
    {fLPur : Addr} {odLPur anLPur : Option Addr} {slLPur : Array (Option Value)} {ocLPur kVLPur dcLPur pmLPur cdLPur ctLPur : Value}
    {fLMach : Addr} {odLMach anLMach : Option Addr} {slLMach : Array (Option Value)} {ocLMach kVLMach dcLMach pmLMach cdLMach ctLMach : Value}
    {fLBelt : Addr} {odLBelt anLBelt : Option Addr} {slLBelt : Array (Option Value)} {ocLBelt kVLBelt dcLBelt pmLBelt cdLBelt ctLBelt : Value}
    {fLJoin : Addr} {odLJoin anLJoin : Option Addr} {slLJoin : Array (Option Value)} {ocLJoin kVLJoin dcLJoin pmLJoin cdLJoin ctLJoin : Value}
    {fAny : Addr} {odAny anAny : Option Addr} {slAny : Array (Option Value)} {ocAny kVAny dcAny pmAny cdAny ctAny : Value}
    {fLFrac : Addr} {odLFrac anLFrac : Option Addr} {slLFrac : Array (Option Value)} {ocLFrac kVLFrac dcLFrac pmLFrac cdLFrac ctLFrac : Value}
    {fNear : Addr} {odNear anNear : Option Addr} {slNear : Array (Option Value)} {ocNear kVNear dcNear pmNear cdNear ctNear : Value}
    {fLaw : Addr} {odLaw anLaw : Option Addr} {slLaw : Array (Option Value)} {ocLaw kVLaw dcLaw pmLaw cdLaw ctLaw : Value}
    (aRed : PySem.W.nsIn K mainGlobals "reduced" = some (some (.ref fRed)))
    (lRed : K.lookup fRed = some ⟨ocRed, odRed, .func (PySem.W.fnOf "reduced" "reduced" (defArgs (topS 2)) (defBody (topS 2)) (defScope (topS 2)) .none kVRed dcRed pmRed anRed cdRed ctRed), slRed⟩)
    (cRed : PySem.W.codeIn K cdRed "reduced" = true)
    (kRed : PySem.W.keepIn K (.ref fRed) = true)
    (aTup : PySem.W.nsIn K mainGlobals "is_tuple_of" = some (some (.ref fTup)))
    (lTup : K.lookup fTup = some ⟨ocTup, odTup, .func (PySem.W.fnOf "is_tuple_of" "is_tuple_of" (defArgs (topS 4)) (defBody (topS 4)) (defScope (topS 4)) .none kVTup dcTup pmTup anTup cdTup ctTup), slTup⟩)
    (cTup : PySem.W.codeIn K cdTup "is_tuple_of" = true)
    (kTup : PySem.W.keepIn K (.ref fTup) = true)
    (aInt_ : PySem.W.nsIn K mainGlobals "is_integer" = some (some (.ref fInt_)))
    (lInt_ : K.lookup fInt_ = some ⟨ocInt_, odInt_, .func (PySem.W.fnOf "is_integer" "is_integer" (defArgs (topS 5)) (defBody (topS 5)) (defScope (topS 5)) .none kVInt_ dcInt_ pmInt_ anInt_ cdInt_ ctInt_), slInt_⟩)
    (cInt_ : PySem.W.codeIn K cdInt_ "is_integer" = true)
    (kInt_ : PySem.W.keepIn K (.ref fInt_) = true)
    (aCnt : PySem.W.nsIn K mainGlobals "is_count" = some (some (.ref fCnt)))
    (lCnt : K.lookup fCnt = some ⟨ocCnt, odCnt, .func (PySem.W.fnOf "is_count" "is_count" (defArgs (topS 6)) (defBody (topS 6)) (defScope (topS 6)) .none kVCnt dcCnt pmCnt anCnt cdCnt ctCnt), slCnt⟩)
    (cCnt : PySem.W.codeIn K cdCnt "is_count" = true)
    (kCnt : PySem.W.keepIn K (.ref fCnt) = true)
    (aPos : PySem.W.nsIn K mainGlobals "is_positive" = some (some (.ref fPos)))
    (lPos : K.lookup fPos = some ⟨ocPos, odPos, .func (PySem.W.fnOf "is_positive" "is_positive" (defArgs (topS 7)) (defBody (topS 7)) (defScope (topS 7)) .none kVPos dcPos pmPos anPos cdPos ctPos), slPos⟩)
    (cPos : PySem.W.codeIn K cdPos "is_positive" = true)
    (kPos : PySem.W.keepIn K (.ref fPos) = true)
    (aNam : PySem.W.nsIn K mainGlobals "is_name" = some (some (.ref fNam)))
    (lNam : K.lookup fNam = some ⟨ocNam, odNam, .func (PySem.W.fnOf "is_name" "is_name" (defArgs (topS 8)) (defBody (topS 8)) (defScope (topS 8)) .none kVNam dcNam pmNam anNam cdNam ctNam), slNam⟩)
    (cNam : PySem.W.codeIn K cdNam "is_name" = true)
    (kNam : PySem.W.keepIn K (.ref fNam) = true)
    (aFrac : PySem.W.nsIn K mainGlobals "is_fraction" = some (some (.ref fFrac)))
    (lFrac : K.lookup fFrac = some ⟨ocFrac, odFrac, .func (PySem.W.fnOf "is_fraction" "is_fraction" (defArgs (topS 9)) (defBody (topS 9)) (defScope (topS 9)) .none kVFrac dcFrac pmFrac anFrac cdFrac ctFrac), slFrac⟩)
    (cFrac : PySem.W.codeIn K cdFrac "is_fraction" = true)
    (kFrac : PySem.W.keepIn K (.ref fFrac) = true)
    (aPur : PySem.W.nsIn K mainGlobals "is_purse" = some (some (.ref fPur)))
    (lPur : K.lookup fPur = some ⟨ocPur, odPur, .func (PySem.W.fnOf "is_purse" "is_purse" (defArgs (topS 10)) (defBody (topS 10)) (defScope (topS 10)) .none kVPur dcPur pmPur anPur cdPur ctPur), slPur⟩)
    (cPur : PySem.W.codeIn K cdPur "is_purse" = true)
    (kPur : PySem.W.keepIn K (.ref fPur) = true)
    (aPurs : PySem.W.nsIn K mainGlobals "are_purses" = some (some (.ref fPurs)))
    (lPurs : K.lookup fPurs = some ⟨ocPurs, odPurs, .func (PySem.W.fnOf "are_purses" "are_purses" (defArgs (topS 11)) (defBody (topS 11)) (defScope (topS 11)) .none kVPurs dcPurs pmPurs anPurs cdPurs ctPurs), slPurs⟩)
    (cPurs : PySem.W.codeIn K cdPurs "are_purses" = true)
    (kPurs : PySem.W.keepIn K (.ref fPurs) = true)
    (aMach : PySem.W.nsIn K mainGlobals "is_machine" = some (some (.ref fMach)))
    (lMach : K.lookup fMach = some ⟨ocMach, odMach, .func (PySem.W.fnOf "is_machine" "is_machine" (defArgs (topS 12)) (defBody (topS 12)) (defScope (topS 12)) .none kVMach dcMach pmMach anMach cdMach ctMach), slMach⟩)
    (cMach : PySem.W.codeIn K cdMach "is_machine" = true)
    (kMach : PySem.W.keepIn K (.ref fMach) = true)
    (aBelt : PySem.W.nsIn K mainGlobals "is_belt" = some (some (.ref fBelt)))
    (lBelt : K.lookup fBelt = some ⟨ocBelt, odBelt, .func (PySem.W.fnOf "is_belt" "is_belt" (defArgs (topS 13)) (defBody (topS 13)) (defScope (topS 13)) .none kVBelt dcBelt pmBelt anBelt cdBelt ctBelt), slBelt⟩)
    (cBelt : PySem.W.codeIn K cdBelt "is_belt" = true)
    (kBelt : PySem.W.keepIn K (.ref fBelt) = true)
    (aJoin : PySem.W.nsIn K mainGlobals "is_joined" = some (some (.ref fJoin)))
    (lJoin : K.lookup fJoin = some ⟨ocJoin, odJoin, .func (PySem.W.fnOf "is_joined" "is_joined" (defArgs (topS 14)) (defBody (topS 14)) (defScope (topS 14)) .none kVJoin dcJoin pmJoin anJoin cdJoin ctJoin), slJoin⟩)
    (cJoin : PySem.W.codeIn K cdJoin "is_joined" = true)
    (kJoin : PySem.W.keepIn K (.ref fJoin) = true)
    (aBag : PySem.W.nsIn K mainGlobals "_law_bag" = some (some (.ref fBag)))
    (lBag : K.lookup fBag = some ⟨ocBag, odBag, .func (PySem.W.fnOf "_law_bag" "_law_bag" (defArgs (topS 16)) (defBody (topS 16)) (defScope (topS 16)) .none kVBag dcBag pmBag anBag cdBag ctBag), slBag⟩)
    (cBag : PySem.W.codeIn K cdBag "_law_bag" = true)
    (kBag : PySem.W.keepIn K (.ref fBag) = true)
    (aTake : PySem.W.nsIn K mainGlobals "_law_take" = some (some (.ref fTake)))
    (lTake : K.lookup fTake = some ⟨ocTake, odTake, .func (PySem.W.fnOf "_law_take" "_law_take" (defArgs (topS 17)) (defBody (topS 17)) (defScope (topS 17)) .none kVTake dcTake pmTake anTake cdTake ctTake), slTake⟩)
    (cTake : PySem.W.codeIn K cdTake "_law_take" = true)
    (kTake : PySem.W.keepIn K (.ref fTake) = true)
    (aSome_ : PySem.W.nsIn K mainGlobals "_law_some" = some (some (.ref fSome_)))
    (lSome_ : K.lookup fSome_ = some ⟨ocSome_, odSome_, .func (PySem.W.fnOf "_law_some" "_law_some" (defArgs (topS 18)) (defBody (topS 18)) (defScope (topS 18)) .none kVSome_ dcSome_ pmSome_ anSome_ cdSome_ ctSome_), slSome_⟩)
    (cSome_ : PySem.W.codeIn K cdSome_ "_law_some" = true)
    (kSome_ : PySem.W.keepIn K (.ref fSome_) = true)
    (aMix : PySem.W.nsIn K mainGlobals "_law_mixed" = some (some (.ref fMix)))
    (lMix : K.lookup fMix = some ⟨ocMix, odMix, .func (PySem.W.fnOf "_law_mixed" "_law_mixed" (defArgs (topS 19)) (defBody (topS 19)) (defScope (topS 19)) .none kVMix dcMix pmMix anMix cdMix ctMix), slMix⟩)
    (cMix : PySem.W.codeIn K cdMix "_law_mixed" = true)
    (kMix : PySem.W.keepIn K (.ref fMix) = true)
    (aAlike : PySem.W.nsIn K mainGlobals "_law_alike" = some (some (.ref fAlike)))
    (lAlike : K.lookup fAlike = some ⟨ocAlike, odAlike, .func (PySem.W.fnOf "_law_alike" "_law_alike" (defArgs (topS 20)) (defBody (topS 20)) (defScope (topS 20)) .none kVAlike dcAlike pmAlike anAlike cdAlike ctAlike), slAlike⟩)
    (cAlike : PySem.W.codeIn K cdAlike "_law_alike" = true)
    (kAlike : PySem.W.keepIn K (.ref fAlike) = true)
    (aLInt : PySem.W.nsIn K mainGlobals "_law_is_int" = some (some (.ref fLInt)))
    (lLInt : K.lookup fLInt = some ⟨ocLInt, odLInt, .func (PySem.W.fnOf "_law_is_int" "_law_is_int" (defArgs (topS 21)) (defBody (topS 21)) (defScope (topS 21)) .none kVLInt dcLInt pmLInt anLInt cdLInt ctLInt), slLInt⟩)
    (cLInt : PySem.W.codeIn K cdLInt "_law_is_int" = true)
    (kLInt : PySem.W.keepIn K (.ref fLInt) = true)
    (aNames : PySem.W.nsIn K mainGlobals "_law_names" = some (some (.ref fNames)))
    (lNames : K.lookup fNames = some ⟨ocNames, odNames, .func (PySem.W.fnOf "_law_names" "_law_names" (defArgs (topS 22)) (defBody (topS 22)) (defScope (topS 22)) .none kVNames dcNames pmNames anNames cdNames ctNames), slNames⟩)
    (cNames : PySem.W.codeIn K cdNames "_law_names" = true)
    (kNames : PySem.W.keepIn K (.ref fNames) = true)
    (aLPurs : PySem.W.nsIn K mainGlobals "_law_purses" = some (some (.ref fLPurs)))
    (lLPurs : K.lookup fLPurs = some ⟨ocLPurs, odLPurs, .func (PySem.W.fnOf "_law_purses" "_law_purses" (defArgs (topS 23)) (defBody (topS 23)) (defScope (topS 23)) .none kVLPurs dcLPurs pmLPurs anLPurs cdLPurs ctLPurs), slLPurs⟩)
    (cLPurs : PySem.W.codeIn K cdLPurs "_law_purses" = true)
    (kLPurs : PySem.W.keepIn K (.ref fLPurs) = true)
    (aFirst : PySem.W.nsIn K mainGlobals "_law_first" = some (some (.ref fFirst)))
    (lFirst : K.lookup fFirst = some ⟨ocFirst, odFirst, .func (PySem.W.fnOf "_law_first" "_law_first" (defArgs (topS 24)) (defBody (topS 24)) (defScope (topS 24)) .none kVFirst dcFirst pmFirst anFirst cdFirst ctFirst), slFirst⟩)
    (cFirst : PySem.W.codeIn K cdFirst "_law_first" = true)
    (kFirst : PySem.W.keepIn K (.ref fFirst) = true)
    (aWeb : PySem.W.nsIn K mainGlobals "_law_web" = some (some (.ref fWeb)))
    (lWeb : K.lookup fWeb = some ⟨ocWeb, odWeb, .func (PySem.W.fnOf "_law_web" "_law_web" (defArgs (topS 25)) (defBody (topS 25)) (defScope (topS 25)) .none kVWeb dcWeb pmWeb anWeb cdWeb ctWeb), slWeb⟩)
    (cWeb : PySem.W.codeIn K cdWeb "_law_web" = true)
    (kWeb : PySem.W.keepIn K (.ref fWeb) = true)
    (aOdd : PySem.W.nsIn K mainGlobals "_law_odd" = some (some (.ref fOdd)))
    (lOdd : K.lookup fOdd = some ⟨ocOdd, odOdd, .func (PySem.W.fnOf "_law_odd" "_law_odd" (defArgs (topS 26)) (defBody (topS 26)) (defScope (topS 26)) .none kVOdd dcOdd pmOdd anOdd cdOdd ctOdd), slOdd⟩)
    (cOdd : PySem.W.codeIn K cdOdd "_law_odd" = true)
    (kOdd : PySem.W.keepIn K (.ref fOdd) = true)
    (aBent : PySem.W.nsIn K mainGlobals "_law_bent" = some (some (.ref fBent)))
    (lBent : K.lookup fBent = some ⟨ocBent, odBent, .func (PySem.W.fnOf "_law_bent" "_law_bent" (defArgs (topS 27)) (defBody (topS 27)) (defScope (topS 27)) .none kVBent dcBent pmBent anBent cdBent ctBent), slBent⟩)
    (cBent : PySem.W.codeIn K cdBent "_law_bent" = true)
    (kBent : PySem.W.keepIn K (.ref fBent) = true)
    (aLName : PySem.W.nsIn K mainGlobals "_law_is_name" = some (some (.ref fLName)))
    (lLName : K.lookup fLName = some ⟨ocLName, odLName, .func (PySem.W.fnOf "_law_is_name" "_law_is_name" (defArgs (topS 28)) (defBody (topS 28)) (defScope (topS 28)) .none kVLName dcLName pmLName anLName cdLName ctLName), slLName⟩)
    (cLName : PySem.W.codeIn K cdLName "_law_is_name" = true)
    (kLName : PySem.W.keepIn K (.ref fLName) = true)
    (aAbove : PySem.W.nsIn K mainGlobals "_law_is_above" = some (some (.ref fAbove)))
    (lAbove : K.lookup fAbove = some ⟨ocAbove, odAbove, .func (PySem.W.fnOf "_law_is_above" "_law_is_above" (defArgs (topS 29)) (defBody (topS 29)) (defScope (topS 29)) .none kVAbove dcAbove pmAbove anAbove cdAbove ctAbove), slAbove⟩)
    (cAbove : PySem.W.codeIn K cdAbove "_law_is_above" = true)
    (kAbove : PySem.W.keepIn K (.ref fAbove) = true)
    (aLPur : PySem.W.nsIn K mainGlobals "_law_is_purse" = some (some (.ref fLPur)))
    (lLPur : K.lookup fLPur = some ⟨ocLPur, odLPur, .func (PySem.W.fnOf "_law_is_purse" "_law_is_purse" (defArgs (topS 30)) (defBody (topS 30)) (defScope (topS 30)) .none kVLPur dcLPur pmLPur anLPur cdLPur ctLPur), slLPur⟩)
    (cLPur : PySem.W.codeIn K cdLPur "_law_is_purse" = true)
    (kLPur : PySem.W.keepIn K (.ref fLPur) = true)
    (aLMach : PySem.W.nsIn K mainGlobals "_law_is_machine" = some (some (.ref fLMach)))
    (lLMach : K.lookup fLMach = some ⟨ocLMach, odLMach, .func (PySem.W.fnOf "_law_is_machine" "_law_is_machine" (defArgs (topS 31)) (defBody (topS 31)) (defScope (topS 31)) .none kVLMach dcLMach pmLMach anLMach cdLMach ctLMach), slLMach⟩)
    (cLMach : PySem.W.codeIn K cdLMach "_law_is_machine" = true)
    (kLMach : PySem.W.keepIn K (.ref fLMach) = true)
    (aLBelt : PySem.W.nsIn K mainGlobals "_law_is_belt" = some (some (.ref fLBelt)))
    (lLBelt : K.lookup fLBelt = some ⟨ocLBelt, odLBelt, .func (PySem.W.fnOf "_law_is_belt" "_law_is_belt" (defArgs (topS 32)) (defBody (topS 32)) (defScope (topS 32)) .none kVLBelt dcLBelt pmLBelt anLBelt cdLBelt ctLBelt), slLBelt⟩)
    (cLBelt : PySem.W.codeIn K cdLBelt "_law_is_belt" = true)
    (kLBelt : PySem.W.keepIn K (.ref fLBelt) = true)
    (aLJoin : PySem.W.nsIn K mainGlobals "_law_are_joined" = some (some (.ref fLJoin)))
    (lLJoin : K.lookup fLJoin = some ⟨ocLJoin, odLJoin, .func (PySem.W.fnOf "_law_are_joined" "_law_are_joined" (defArgs (topS 33)) (defBody (topS 33)) (defScope (topS 33)) .none kVLJoin dcLJoin pmLJoin anLJoin cdLJoin ctLJoin), slLJoin⟩)
    (cLJoin : PySem.W.codeIn K cdLJoin "_law_are_joined" = true)
    (kLJoin : PySem.W.keepIn K (.ref fLJoin) = true)
    (aAny : PySem.W.nsIn K mainGlobals "_law_any_hall" = some (some (.ref fAny)))
    (lAny : K.lookup fAny = some ⟨ocAny, odAny, .func (PySem.W.fnOf "_law_any_hall" "_law_any_hall" (defArgs (topS 34)) (defBody (topS 34)) (defScope (topS 34)) .none kVAny dcAny pmAny anAny cdAny ctAny), slAny⟩)
    (cAny : PySem.W.codeIn K cdAny "_law_any_hall" = true)
    (kAny : PySem.W.keepIn K (.ref fAny) = true)
    (aLFrac : PySem.W.nsIn K mainGlobals "_law_is_fraction" = some (some (.ref fLFrac)))
    (lLFrac : K.lookup fLFrac = some ⟨ocLFrac, odLFrac, .func (PySem.W.fnOf "_law_is_fraction" "_law_is_fraction" (defArgs (topS 35)) (defBody (topS 35)) (defScope (topS 35)) .none kVLFrac dcLFrac pmLFrac anLFrac cdLFrac ctLFrac), slLFrac⟩)
    (cLFrac : PySem.W.codeIn K cdLFrac "_law_is_fraction" = true)
    (kLFrac : PySem.W.keepIn K (.ref fLFrac) = true)
    (aNear : PySem.W.nsIn K mainGlobals "_law_near" = some (some (.ref fNear)))
    (lNear : K.lookup fNear = some ⟨ocNear, odNear, .func (PySem.W.fnOf "_law_near" "_law_near" (defArgs (topS 36)) (defBody (topS 36)) (defScope (topS 36)) .none kVNear dcNear pmNear anNear cdNear ctNear), slNear⟩)
    (cNear : PySem.W.codeIn K cdNear "_law_near" = true)
    (kNear : PySem.W.keepIn K (.ref fNear) = true)
    (aLaw : PySem.W.nsIn K mainGlobals "law" = some (some (.ref fLaw)))
    (lLaw : K.lookup fLaw = some ⟨ocLaw, odLaw, .func (PySem.W.fnOf "law" "law" (defArgs (topS 37)) (defBody (topS 37)) (defScope (topS 37)) .none kVLaw dcLaw pmLaw anLaw cdLaw ctLaw), slLaw⟩)
    (cLaw : PySem.W.codeIn K cdLaw "law" = true)
    (kLaw : PySem.W.keepIn K (.ref fLaw) = true)
    (s_NoneType_int : PySem.W.subIn K (.type "NoneType") (.type "int") = some false)
    (s_bool_int : PySem.W.subIn K (.type "bool") (.type "int") = some true)
    (s_str_int : PySem.W.subIn K (.type "str") (.type "int") = some false)
    (s_list_int : PySem.W.subIn K (.type "list") (.type "int") = some false)
    (s_tuple_int : PySem.W.subIn K (.type "tuple") (.type "int") = some false)
    (s_dict_int : PySem.W.subIn K (.type "dict") (.type "int") = some false)
    (s_NoneType_bool : PySem.W.subIn K (.type "NoneType") (.type "bool") = some false)
    (s_int_bool : PySem.W.subIn K (.type "int") (.type "bool") = some false)
    (s_str_bool : PySem.W.subIn K (.type "str") (.type "bool") = some false)
    (s_list_bool : PySem.W.subIn K (.type "list") (.type "bool") = some false)
    (s_tuple_bool : PySem.W.subIn K (.type "tuple") (.type "bool") = some false)
    (s_dict_bool : PySem.W.subIn K (.type "dict") (.type "bool") = some false)
    (s_NoneType_tuple : PySem.W.subIn K (.type "NoneType") (.type "tuple") = some false)
    (s_bool_tuple : PySem.W.subIn K (.type "bool") (.type "tuple") = some false)
    (s_int_tuple : PySem.W.subIn K (.type "int") (.type "tuple") = some false)
    (s_str_tuple : PySem.W.subIn K (.type "str") (.type "tuple") = some false)
    (s_list_tuple : PySem.W.subIn K (.type "list") (.type "tuple") = some false)
    (s_dict_tuple : PySem.W.subIn K (.type "dict") (.type "tuple") = some false)
    (s_NoneType_str : PySem.W.subIn K (.type "NoneType") (.type "str") = some false)
    (s_bool_str : PySem.W.subIn K (.type "bool") (.type "str") = some false)
    (s_int_str : PySem.W.subIn K (.type "int") (.type "str") = some false)
    (s_list_str : PySem.W.subIn K (.type "list") (.type "str") = some false)
    (s_tuple_str : PySem.W.subIn K (.type "tuple") (.type "str") = some false)
    (s_dict_str : PySem.W.subIn K (.type "dict") (.type "str") = some false)
    (s_NoneType_dict : PySem.W.subIn K (.type "NoneType") (.type "dict") = some false)
    (s_bool_dict : PySem.W.subIn K (.type "bool") (.type "dict") = some false)
    (s_int_dict : PySem.W.subIn K (.type "int") (.type "dict") = some false)
    (s_str_dict : PySem.W.subIn K (.type "str") (.type "dict") = some false)
    (s_list_dict : PySem.W.subIn K (.type "list") (.type "dict") = some false)
    (s_tuple_dict : PySem.W.subIn K (.type "tuple") (.type "dict") = some false)
    (z_int : PySem.W.nsIn K mainGlobals "int" = some none)
    (z_len : PySem.W.nsIn K mainGlobals "len" = some none)
    (z_abs : PySem.W.nsIn K mainGlobals "abs" = some none)
    (z_repr : PySem.W.nsIn K mainGlobals "repr" = some none)
    (z_isinstance : PySem.W.nsIn K mainGlobals "isinstance" = some none)
    (z_range : PySem.W.nsIn K mainGlobals "range" = some none)
    (z_list : PySem.W.nsIn K mainGlobals "list" = some none)
    (z_str : PySem.W.nsIn K mainGlobals "str" = some none)
    (z_tuple : PySem.W.nsIn K mainGlobals "tuple" = some none)
    (z_dict : PySem.W.nsIn K mainGlobals "dict" = some none)
    (z_bool : PySem.W.nsIn K mainGlobals "bool" = some none)
    (z_sorted : PySem.W.nsIn K mainGlobals "sorted" = some none)
    (z_type : PySem.W.nsIn K mainGlobals "type" = some none)
    (z_all : PySem.W.nsIn K mainGlobals "all" = some none)
    (gcd : PySem.W.nsIn K mainGlobals "gcd" = some (some (.builtin "math.gcd")))
    : ∃ fd : FuncData, (∀ (t : Shared) (u : Value), BindsTo t fd ⟨[u], []⟩ [("script", u)]) ∧ ∀ base : Heap, K.In base → base.Ns mainGlobals mg → FnG P w K mg base 8 fa fd ["script"] (spLaw K) := by
  have e := hfa.symm.trans (PySem.W.mg_of X G aLaw)
  cases e
  have FRed := fun_mk (st := topS 2) lRed cRed kRed
  have BRed := FRed.binds (ps := ["n", "d"]) fun _ _ _ _ _ _ us hl => match us, hl with | [_, _], _ => rfl
  have AtRed : At K mg "reduced" (topS 2) ["n", "d"] fRed _ := ⟨FRed, BRed, PySem.W.mg_of X G aRed⟩
  have FTup := fun_mk (st := topS 4) lTup cTup kTup
  have BTup := FTup.binds (ps := ["thing", "many"]) fun _ _ _ _ _ _ us hl => match us, hl with | [_, _], _ => rfl
  have AtTup : At K mg "is_tuple_of" (topS 4) ["thing", "many"] fTup _ := ⟨FTup, BTup, PySem.W.mg_of X G aTup⟩
  have FInt_ := fun_mk (st := topS 5) lInt_ cInt_ kInt_
  have BInt_ := FInt_.binds (ps := ["thing"]) fun _ _ _ _ _ _ us hl => match us, hl with | [_], _ => rfl
  have AtInt_ : At K mg "is_integer" (topS 5) ["thing"] fInt_ _ := ⟨FInt_, BInt_, PySem.W.mg_of X G aInt_⟩
  have FCnt := fun_mk (st := topS 6) lCnt cCnt kCnt
  have BCnt := FCnt.binds (ps := ["thing"]) fun _ _ _ _ _ _ us hl => match us, hl with | [_], _ => rfl
  have AtCnt : At K mg "is_count" (topS 6) ["thing"] fCnt _ := ⟨FCnt, BCnt, PySem.W.mg_of X G aCnt⟩
  have FPos := fun_mk (st := topS 7) lPos cPos kPos
  have BPos := FPos.binds (ps := ["thing"]) fun _ _ _ _ _ _ us hl => match us, hl with | [_], _ => rfl
  have AtPos : At K mg "is_positive" (topS 7) ["thing"] fPos _ := ⟨FPos, BPos, PySem.W.mg_of X G aPos⟩
  have FNam := fun_mk (st := topS 8) lNam cNam kNam
  have BNam := FNam.binds (ps := ["thing"]) fun _ _ _ _ _ _ us hl => match us, hl with | [_], _ => rfl
  have AtNam : At K mg "is_name" (topS 8) ["thing"] fNam _ := ⟨FNam, BNam, PySem.W.mg_of X G aNam⟩
  have FFrac := fun_mk (st := topS 9) lFrac cFrac kFrac
  have BFrac := FFrac.binds (ps := ["thing"]) fun _ _ _ _ _ _ us hl => match us, hl with | [_], _ => rfl
  have AtFrac : At K mg "is_fraction" (topS 9) ["thing"] fFrac _ := ⟨FFrac, BFrac, PySem.W.mg_of X G aFrac⟩
  have FPur := fun_mk (st := topS 10) lPur cPur kPur
  have BPur := FPur.binds (ps := ["thing"]) fun _ _ _ _ _ _ us hl => match us, hl with | [_], _ => rfl
  have AtPur : At K mg "is_purse" (topS 10) ["thing"] fPur _ := ⟨FPur, BPur, PySem.W.mg_of X G aPur⟩
  have FPurs := fun_mk (st := topS 11) lPurs cPurs kPurs
  have BPurs := FPurs.binds (ps := ["thing"]) fun _ _ _ _ _ _ us hl => match us, hl with | [_], _ => rfl
  have AtPurs : At K mg "are_purses" (topS 11) ["thing"] fPurs _ := ⟨FPurs, BPurs, PySem.W.mg_of X G aPurs⟩
  have FMach := fun_mk (st := topS 12) lMach cMach kMach
  have BMach := FMach.binds (ps := ["thing"]) fun _ _ _ _ _ _ us hl => match us, hl with | [_], _ => rfl
  have AtMach : At K mg "is_machine" (topS 12) ["thing"] fMach _ := ⟨FMach, BMach, PySem.W.mg_of X G aMach⟩
  have FBelt := fun_mk (st := topS 13) lBelt cBelt kBelt
  have BBelt := FBelt.binds (ps := ["thing"]) fun _ _ _ _ _ _ us hl => match us, hl with | [_], _ => rfl
  have AtBelt : At K mg "is_belt" (topS 13) ["thing"] fBelt _ := ⟨FBelt, BBelt, PySem.W.mg_of X G aBelt⟩
  have FJoin := fun_mk (st := topS 14) lJoin cJoin kJoin
  have BJoin := FJoin.binds (ps := ["names", "belts", "name"]) fun _ _ _ _ _ _ us hl => match us, hl with | [_, _, _], _ => rfl
  have AtJoin : At K mg "is_joined" (topS 14) ["names", "belts", "name"] fJoin _ := ⟨FJoin, BJoin, PySem.W.mg_of X G aJoin⟩
  have FBag := fun_mk (st := topS 16) lBag cBag kBag
  have BBag := FBag.binds (ps := ["script"]) fun _ _ _ _ _ _ us hl => match us, hl with | [_], _ => rfl
  have AtBag : At K mg "_law_bag" (topS 16) ["script"] fBag _ := ⟨FBag, BBag, PySem.W.mg_of X G aBag⟩
  have FTake := fun_mk (st := topS 17) lTake cTake kTake
  have BTake := FTake.binds (ps := ["bag", "many"]) fun _ _ _ _ _ _ us hl => match us, hl with | [_, _], _ => rfl
  have AtTake : At K mg "_law_take" (topS 17) ["bag", "many"] fTake _ := ⟨FTake, BTake, PySem.W.mg_of X G aTake⟩
  have FSome_ := fun_mk (st := topS 18) lSome_ cSome_ kSome_
  have BSome_ := FSome_.binds (ps := ["bag", "things"]) fun _ _ _ _ _ _ us hl => match us, hl with | [_, _], _ => rfl
  have AtSome_ : At K mg "_law_some" (topS 18) ["bag", "things"] fSome_ _ := ⟨FSome_, BSome_, PySem.W.mg_of X G aSome_⟩
  have FMix := fun_mk (st := topS 19) lMix cMix kMix
  have BMix := FMix.binds (ps := ["bag", "things"]) fun _ _ _ _ _ _ us hl => match us, hl with | [_, _], _ => rfl
  have AtMix : At K mg "_law_mixed" (topS 19) ["bag", "things"] fMix _ := ⟨FMix, BMix, PySem.W.mg_of X G aMix⟩
  have FAlike := fun_mk (st := topS 20) lAlike cAlike kAlike
  have BAlike := FAlike.binds (ps := ["found", "due"]) fun _ _ _ _ _ _ us hl => match us, hl with | [_, _], _ => rfl
  have AtAlike : At K mg "_law_alike" (topS 20) ["found", "due"] fAlike _ := ⟨FAlike, BAlike, PySem.W.mg_of X G aAlike⟩
  have FLInt := fun_mk (st := topS 21) lLInt cLInt kLInt
  have BLInt := FLInt.binds (ps := ["thing"]) fun _ _ _ _ _ _ us hl => match us, hl with | [_], _ => rfl
  have AtLInt : At K mg "_law_is_int" (topS 21) ["thing"] fLInt _ := ⟨FLInt, BLInt, PySem.W.mg_of X G aLInt⟩
  have FNames := fun_mk (st := topS 22) lNames cNames kNames
  have BNames := FNames.binds (ps := ["hall"]) fun _ _ _ _ _ _ us hl => match us, hl with | [_], _ => rfl
  have AtNames : At K mg "_law_names" (topS 22) ["hall"] fNames _ := ⟨FNames, BNames, PySem.W.mg_of X G aNames⟩
  have FLPurs := fun_mk (st := topS 23) lLPurs cLPurs kLPurs
  have BLPurs := FLPurs.binds (ps := ["bag", "most"]) fun _ _ _ _ _ _ us hl => match us, hl with | [_, _], _ => rfl
  have AtLPurs : At K mg "_law_purses" (topS 23) ["bag", "most"] fLPurs _ := ⟨FLPurs, BLPurs, PySem.W.mg_of X G aLPurs⟩
  have FFirst := fun_mk (st := topS 24) lFirst cFirst kFirst
  have BFirst := FFirst.binds (ps := ["bag", "room"]) fun _ _ _ _ _ _ us hl => match us, hl with | [_, _], _ => rfl
  have AtFirst : At K mg "_law_first" (topS 24) ["bag", "room"] fFirst _ := ⟨FFirst, BFirst, PySem.W.mg_of X G aFirst⟩
  have FWeb := fun_mk (st := topS 25) lWeb cWeb kWeb
  have BWeb := FWeb.binds (ps := ["bag", "machines", "most"]) fun _ _ _ _ _ _ us hl => match us, hl with | [_, _, _], _ => rfl
  have AtWeb : At K mg "_law_web" (topS 25) ["bag", "machines", "most"] fWeb _ := ⟨FWeb, BWeb, PySem.W.mg_of X G aWeb⟩
  have FOdd := fun_mk (st := topS 26) lOdd cOdd kOdd
  have BOdd := FOdd.binds (ps := ["bag"]) fun _ _ _ _ _ _ us hl => match us, hl with | [_], _ => rfl
  have AtOdd : At K mg "_law_odd" (topS 26) ["bag"] fOdd _ := ⟨FOdd, BOdd, PySem.W.mg_of X G aOdd⟩
  have FBent := fun_mk (st := topS 27) lBent cBent kBent
  have BBent := FBent.binds (ps := ["bag", "thing", "deep"]) fun _ _ _ _ _ _ us hl => match us, hl with | [_, _, _], _ => rfl
  have AtBent : At K mg "_law_bent" (topS 27) ["bag", "thing", "deep"] fBent _ := ⟨FBent, BBent, PySem.W.mg_of X G aBent⟩
  have FLName := fun_mk (st := topS 28) lLName cLName kLName
  have BLName := FLName.binds (ps := ["thing"]) fun _ _ _ _ _ _ us hl => match us, hl with | [_], _ => rfl
  have AtLName : At K mg "_law_is_name" (topS 28) ["thing"] fLName _ := ⟨FLName, BLName, PySem.W.mg_of X G aLName⟩
  have FAbove := fun_mk (st := topS 29) lAbove cAbove kAbove
  have BAbove := FAbove.binds (ps := ["thing", "least"]) fun _ _ _ _ _ _ us hl => match us, hl with | [_, _], _ => rfl
  have AtAbove : At K mg "_law_is_above" (topS 29) ["thing", "least"] fAbove _ := ⟨FAbove, BAbove, PySem.W.mg_of X G aAbove⟩
  have FLPur := fun_mk (st := topS 30) lLPur cLPur kLPur
  have BLPur := FLPur.binds (ps := ["thing"]) fun _ _ _ _ _ _ us hl => match us, hl with | [_], _ => rfl
  have AtLPur : At K mg "_law_is_purse" (topS 30) ["thing"] fLPur _ := ⟨FLPur, BLPur, PySem.W.mg_of X G aLPur⟩
  have FLMach := fun_mk (st := topS 31) lLMach cLMach kLMach
  have BLMach := FLMach.binds (ps := ["thing"]) fun _ _ _ _ _ _ us hl => match us, hl with | [_], _ => rfl
  have AtLMach : At K mg "_law_is_machine" (topS 31) ["thing"] fLMach _ := ⟨FLMach, BLMach, PySem.W.mg_of X G aLMach⟩
  have FLBelt := fun_mk (st := topS 32) lLBelt cLBelt kLBelt
  have BLBelt := FLBelt.binds (ps := ["thing"]) fun _ _ _ _ _ _ us hl => match us, hl with | [_], _ => rfl
  have AtLBelt : At K mg "_law_is_belt" (topS 32) ["thing"] fLBelt _ := ⟨FLBelt, BLBelt, PySem.W.mg_of X G aLBelt⟩
  have FLJoin := fun_mk (st := topS 33) lLJoin cLJoin kLJoin
  have BLJoin := FLJoin.binds (ps := ["names", "belts", "name"]) fun _ _ _ _ _ _ us hl => match us, hl with | [_, _, _], _ => rfl
  have AtLJoin : At K mg "_law_are_joined" (topS 33) ["names", "belts", "name"] fLJoin _ := ⟨FLJoin, BLJoin, PySem.W.mg_of X G aLJoin⟩
  have FAny := fun_mk (st := topS 34) lAny cAny kAny
  have BAny := FAny.binds (ps := ["bag"]) fun _ _ _ _ _ _ us hl => match us, hl with | [_], _ => rfl
  have AtAny : At K mg "_law_any_hall" (topS 34) ["bag"] fAny _ := ⟨FAny, BAny, PySem.W.mg_of X G aAny⟩
  have FLFrac := fun_mk (st := topS 35) lLFrac cLFrac kLFrac
  have BLFrac := FLFrac.binds (ps := ["thing"]) fun _ _ _ _ _ _ us hl => match us, hl with | [_], _ => rfl
  have AtLFrac : At K mg "_law_is_fraction" (topS 35) ["thing"] fLFrac _ := ⟨FLFrac, BLFrac, PySem.W.mg_of X G aLFrac⟩
  have FNear := fun_mk (st := topS 36) lNear cNear kNear
  have BNear := FNear.binds (ps := ["bag"]) fun _ _ _ _ _ _ us hl => match us, hl with | [_], _ => rfl
  have AtNear : At K mg "_law_near" (topS 36) ["bag"] fNear _ := ⟨FNear, BNear, PySem.W.mg_of X G aNear⟩
  have FLaw := fun_mk (st := topS 37) lLaw cLaw kLaw
  have BLaw := FLaw.binds (ps := ["script"]) fun _ _ _ _ _ _ us hl => match us, hl with | [_], _ => rfl
  have KTint : KT K "int" wideInt := ⟨kit_typ (by rfl) (by decide +kernel) s_NoneType_int, fun _ => kit_typ (by rfl) (by decide +kernel) s_bool_int, fun _ => kit_same, fun _ => kit_typ (by rfl) (by decide +kernel) s_str_int, fun _ => kit_typ (by rfl) (by decide +kernel) s_list_int, fun _ => kit_typ (by rfl) (by decide +kernel) s_tuple_int, fun _ => kit_typ (by rfl) (by decide +kernel) s_dict_int⟩
  have KTbool : KT K "bool" isBool := ⟨kit_typ (by rfl) (by decide +kernel) s_NoneType_bool, fun _ => kit_same, fun _ => kit_typ (by rfl) (by decide +kernel) s_int_bool, fun _ => kit_typ (by rfl) (by decide +kernel) s_str_bool, fun _ => kit_typ (by rfl) (by decide +kernel) s_list_bool, fun _ => kit_typ (by rfl) (by decide +kernel) s_tuple_bool, fun _ => kit_typ (by rfl) (by decide +kernel) s_dict_bool⟩
  have KTtuple : KT K "tuple" anyTup := ⟨kit_typ (by rfl) (by decide +kernel) s_NoneType_tuple, fun _ => kit_typ (by rfl) (by decide +kernel) s_bool_tuple, fun _ => kit_typ (by rfl) (by decide +kernel) s_int_tuple, fun _ => kit_typ (by rfl) (by decide +kernel) s_str_tuple, fun _ => kit_typ (by rfl) (by decide +kernel) s_list_tuple, fun _ => kit_same, fun _ => kit_typ (by rfl) (by decide +kernel) s_dict_tuple⟩
  have KTstr : KT K "str" isStr := ⟨kit_typ (by rfl) (by decide +kernel) s_NoneType_str, fun _ => kit_typ (by rfl) (by decide +kernel) s_bool_str, fun _ => kit_typ (by rfl) (by decide +kernel) s_int_str, fun _ => kit_same, fun _ => kit_typ (by rfl) (by decide +kernel) s_list_str, fun _ => kit_typ (by rfl) (by decide +kernel) s_tuple_str, fun _ => kit_typ (by rfl) (by decide +kernel) s_dict_str⟩
  have KTdict : KT K "dict" isDict := ⟨kit_typ (by rfl) (by decide +kernel) s_NoneType_dict, fun _ => kit_typ (by rfl) (by decide +kernel) s_bool_dict, fun _ => kit_typ (by rfl) (by decide +kernel) s_int_dict, fun _ => kit_typ (by rfl) (by decide +kernel) s_str_dict, fun _ => kit_typ (by rfl) (by decide +kernel) s_list_dict, fun _ => kit_typ (by rfl) (by decide +kernel) s_tuple_dict, fun _ => kit_same⟩
  have T : Txt K mg := ⟨_, _, _, _, _, _, _, _, _, _, _, _, _, _, _, _, _, _, _, _, _, _, _, _, _, _, _, _, _, _, _, _, _, _, _, _, _, _, _, _, _, _, _, _, _, _, _, _, _, _, _, _, _, _, _, _, _, _, _, _, _, _, _, _, _, _, AtRed, AtTup, AtInt_, AtCnt, AtPos, AtNam, AtFrac, AtPur, AtPurs, AtMach, AtBelt, AtJoin, AtBag, AtTake, AtSome_, AtMix, AtAlike, AtLInt, AtNames, AtLPurs, AtFirst, AtWeb, AtOdd, AtBent, AtLName, AtAbove, AtLPur, AtLMach, AtLBelt, AtLJoin, AtAny, AtLFrac, AtNear, PySem.W.mg_none_of X G z_int, PySem.W.mg_none_of X G z_len, PySem.W.mg_none_of X G z_abs, PySem.W.mg_none_of X G z_repr, PySem.W.mg_none_of X G z_isinstance, PySem.W.mg_none_of X G z_range, PySem.W.mg_none_of X G z_list, PySem.W.mg_none_of X G z_str, PySem.W.mg_none_of X G z_tuple, PySem.W.mg_none_of X G z_dict, PySem.W.mg_none_of X G z_bool, PySem.W.mg_none_of X G z_sorted, PySem.W.mg_none_of X G z_type, PySem.W.mg_none_of X G z_all, PySem.W.mg_of X G gcd, KTint, KTbool, KTtuple, KTstr, KTdict⟩
  exact ⟨_, fun t u => .of_eq rfl, fun base _ _ => ok_law FLaw T⟩
end K29

open PySem PySem.W PyProof.Rows in
set_option maxRecDepth 100000 in
set_option maxHeartbeats 0 in
theorem PySem.Challenge.cw_fillerfed_k29_small_forms_of_any_value_holds : PySem.Challenge.rw_fillerfed_k29_small_forms_of_any_value.Holds := by
  w_on; o_law; k_head; (case hw => w_witness2)
  k_fill
  refine Vd.walkG (l := PySem.Challenge.rw_fillerfed_k29_small_forms_of_any_value) (n := 63) (k := 8) (x := "script") (sp := K29.spLaw) rfl (by decide +kernel) rfl ⟨rfl, by decide +kernel, by decide +kernel⟩ (fun w h Y => PySem.W.kIn_of Y) ?F (fun K H a ns few sq => ⟨a, ns, rfl, sq, few, fun _ => rfl⟩)
  case F =>
    intro w mg fa h KX G hmg
    refine' K29.all_mk KX G hmg ?aRed ?lRed ?cRed ?kRed ?aTup ?lTup ?cTup ?kTup ?aInt_ ?lInt_ ?cInt_ ?kInt_ ?aCnt ?lCnt ?cCnt ?kCnt ?aPos ?lPos ?cPos ?kPos ?aNam ?lNam ?cNam ?kNam ?aFrac ?lFrac ?cFrac ?kFrac ?aPur ?lPur ?cPur ?kPur ?aPurs ?lPurs ?cPurs ?kPurs ?aMach ?lMach ?cMach ?kMach ?aBelt ?lBelt ?cBelt ?kBelt ?aJoin ?lJoin ?cJoin ?kJoin ?aBag ?lBag ?cBag ?kBag ?aTake ?lTake ?cTake ?kTake ?aSome_ ?lSome_ ?cSome_ ?kSome_ ?aMix ?lMix ?cMix ?kMix ?aAlike ?lAlike ?cAlike ?kAlike ?aLInt ?lLInt ?cLInt ?kLInt ?aNames ?lNames ?cNames ?kNames ?aLPurs ?lLPurs ?cLPurs ?kLPurs ?aFirst ?lFirst ?cFirst ?kFirst ?aWeb ?lWeb ?cWeb ?kWeb ?aOdd ?lOdd ?cOdd ?kOdd ?aBent ?lBent ?cBent ?kBent ?aLName ?lLName ?cLName ?kLName ?aAbove ?lAbove ?cAbove ?kAbove ?aLPur ?lLPur ?cLPur ?kLPur ?aLMach ?lLMach ?cLMach ?kLMach ?aLBelt ?lLBelt ?cLBelt ?kLBelt ?aLJoin ?lLJoin ?cLJoin ?kLJoin ?aAny ?lAny ?cAny ?kAny ?aLFrac ?lLFrac ?cLFrac ?kLFrac ?aNear ?lNear ?cNear ?kNear ?aLaw ?lLaw ?cLaw ?kLaw ?s_NoneType_int ?s_bool_int ?s_str_int ?s_list_int ?s_tuple_int ?s_dict_int ?s_NoneType_bool ?s_int_bool ?s_str_bool ?s_list_bool ?s_tuple_bool ?s_dict_bool ?s_NoneType_tuple ?s_bool_tuple ?s_int_tuple ?s_str_tuple ?s_list_tuple ?s_dict_tuple ?s_NoneType_str ?s_bool_str ?s_int_str ?s_list_str ?s_tuple_str ?s_dict_str ?s_NoneType_dict ?s_bool_dict ?s_int_dict ?s_str_dict ?s_list_dict ?s_tuple_dict ?z_int ?z_len ?z_abs ?z_repr ?z_isinstance ?z_range ?z_list ?z_str ?z_tuple ?z_dict ?z_bool ?z_sorted ?z_type ?z_all ?gcd
    (case aRed => k_is)
    (case lRed => k_is)
    (case cRed => k_is)
    (case kRed => k_is)
    (case aTup => k_is)
    (case lTup => k_is)
    (case cTup => k_is)
    (case kTup => k_is)
    (case aInt_ => k_is)
    (case lInt_ => k_is)
    (case cInt_ => k_is)
    (case kInt_ => k_is)
    (case aCnt => k_is)
    (case lCnt => k_is)
    (case cCnt => k_is)
    (case kCnt => k_is)
    (case aPos => k_is)
    (case lPos => k_is)
    (case cPos => k_is)
    (case kPos => k_is)
    (case aNam => k_is)
    (case lNam => k_is)
    (case cNam => k_is)
    (case kNam => k_is)
    (case aFrac => k_is)
    (case lFrac => k_is)
    (case cFrac => k_is)
    (case kFrac => k_is)
    (case aPur => k_is)
    (case lPur => k_is)
    (case cPur => k_is)
    (case kPur => k_is)
    (case aPurs => k_is)
    (case lPurs => k_is)
    (case cPurs => k_is)
    (case kPurs => k_is)
    (case aMach => k_is)
    (case lMach => k_is)
    (case cMach => k_is)
    (case kMach => k_is)
    (case aBelt => k_is)
    (case lBelt => k_is)
    (case cBelt => k_is)
    (case kBelt => k_is)
    (case aJoin => k_is)
    (case lJoin => k_is)
    (case cJoin => k_is)
    (case kJoin => k_is)
    (case aBag => k_is)
    (case lBag => k_is)
    (case cBag => k_is)
    (case kBag => k_is)
    (case aTake => k_is)
    (case lTake => k_is)
    (case cTake => k_is)
    (case kTake => k_is)
    (case aSome_ => k_is)
    (case lSome_ => k_is)
    (case cSome_ => k_is)
    (case kSome_ => k_is)
    (case aMix => k_is)
    (case lMix => k_is)
    (case cMix => k_is)
    (case kMix => k_is)
    (case aAlike => k_is)
    (case lAlike => k_is)
    (case cAlike => k_is)
    (case kAlike => k_is)
    (case aLInt => k_is)
    (case lLInt => k_is)
    (case cLInt => k_is)
    (case kLInt => k_is)
    (case aNames => k_is)
    (case lNames => k_is)
    (case cNames => k_is)
    (case kNames => k_is)
    (case aLPurs => k_is)
    (case lLPurs => k_is)
    (case cLPurs => k_is)
    (case kLPurs => k_is)
    (case aFirst => k_is)
    (case lFirst => k_is)
    (case cFirst => k_is)
    (case kFirst => k_is)
    (case aWeb => k_is)
    (case lWeb => k_is)
    (case cWeb => k_is)
    (case kWeb => k_is)
    (case aOdd => k_is)
    (case lOdd => k_is)
    (case cOdd => k_is)
    (case kOdd => k_is)
    (case aBent => k_is)
    (case lBent => k_is)
    (case cBent => k_is)
    (case kBent => k_is)
    (case aLName => k_is)
    (case lLName => k_is)
    (case cLName => k_is)
    (case kLName => k_is)
    (case aAbove => k_is)
    (case lAbove => k_is)
    (case cAbove => k_is)
    (case kAbove => k_is)
    (case aLPur => k_is)
    (case lLPur => k_is)
    (case cLPur => k_is)
    (case kLPur => k_is)
    (case aLMach => k_is)
    (case lLMach => k_is)
    (case cLMach => k_is)
    (case kLMach => k_is)
    (case aLBelt => k_is)
    (case lLBelt => k_is)
    (case cLBelt => k_is)
    (case kLBelt => k_is)
    (case aLJoin => k_is)
    (case lLJoin => k_is)
    (case cLJoin => k_is)
    (case kLJoin => k_is)
    (case aAny => k_is)
    (case lAny => k_is)
    (case cAny => k_is)
    (case kAny => k_is)
    (case aLFrac => k_is)
    (case lLFrac => k_is)
    (case cLFrac => k_is)
    (case kLFrac => k_is)
    (case aNear => k_is)
    (case lNear => k_is)
    (case cNear => k_is)
    (case kNear => k_is)
    (case aLaw => k_is)
    (case lLaw => k_is)
    (case cLaw => k_is)
    (case kLaw => k_is)
    (case s_NoneType_int => k_is)
    (case s_bool_int => k_is)
    (case s_str_int => k_is)
    (case s_list_int => k_is)
    (case s_tuple_int => k_is)
    (case s_dict_int => k_is)
    (case s_NoneType_bool => k_is)
    (case s_int_bool => k_is)
    (case s_str_bool => k_is)
    (case s_list_bool => k_is)
    (case s_tuple_bool => k_is)
    (case s_dict_bool => k_is)
    (case s_NoneType_tuple => k_is)
    (case s_bool_tuple => k_is)
    (case s_int_tuple => k_is)
    (case s_str_tuple => k_is)
    (case s_list_tuple => k_is)
    (case s_dict_tuple => k_is)
    (case s_NoneType_str => k_is)
    (case s_bool_str => k_is)
    (case s_int_str => k_is)
    (case s_list_str => k_is)
    (case s_tuple_str => k_is)
    (case s_dict_str => k_is)
    (case s_NoneType_dict => k_is)
    (case s_bool_dict => k_is)
    (case s_int_dict => k_is)
    (case s_str_dict => k_is)
    (case s_list_dict => k_is)
    (case s_tuple_dict => k_is)
    (case z_int => k_is)
    (case z_len => k_is)
    (case z_abs => k_is)
    (case z_repr => k_is)
    (case z_isinstance => k_is)
    (case z_range => k_is)
    (case z_list => k_is)
    (case z_str => k_is)
    (case z_tuple => k_is)
    (case z_dict => k_is)
    (case z_bool => k_is)
    (case z_sorted => k_is)
    (case z_type => k_is)
    (case z_all => k_is)
    (case gcd => k_is)
