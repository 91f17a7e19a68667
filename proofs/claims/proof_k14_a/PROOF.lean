import PyProof.Rows.All
import Wide.All
import OpenK.AllK
import Wide.FinOn
import HandS.ForMost
import HandS.Exc
import HandS.ExcOwn
import HandS.ExcInit
import HandS.IsInst
import HandS.Gcd
import HandS.RaiseMore
import HandS.FStr
import HandS.ListEq
import HandS.DictEq
import HandS.Wide
import HandS.Evl
import HandS.More
import HandS.List
import HandS.TupMul
import HandS.TupAny
import HandS.Style
import PyProof.StrOps2
import HandS.Text
import HandS.Walk
import HandS.Zip
import KE.GoesEnum
import KE.GoesMore
import HandS.TryOnly
import HandS.SortOrd
import HandS.SortRule
import HandS.DictComp
import HandS.SetKeys
import HandS.Strs
import HandS.Ends
import KE.KDictZip
import KE.GoesZip
import PyProof.ListNew
import PySem.Challenge.RW_fillerfed_k14_ways_and_walks
set_option Elab.async false
set_option linter.all false
set_option maxRecDepth 100000
set_option maxHeartbeats 4000000
set_option exponentiation.threshold 500
/-! V0: what the laws of this program share: data in the abstract heap, == and repr of data at any depth, defs that know that no repr runs around them -/
namespace Vd
open PySem PySem.Spec PyProof.Rows L2

/-! ### defs that are called where no repr is under way -/
/-- a def's promise where nothing around holds a guard (a repr of a list ..) -/
structure FnG (P : Program) (w : World) (K : PySem.W.Frag) (mg : Str → Option Value) (base : Heap) (k : Nat) (f : Addr) (fd : FuncData) (ps : List Str) (sp : Sp) : Prop where
  many : ∀ vs H Q E, sp vs H Q E → vs.length = ps.length
  go : ∀ (B : Around) (frames : List Env) (t : Shared) (G : Hp) (args : Args) (us : List Value) (vs : List V) (Q : VK) (E : XK),
    Room k B → B.guards = some [] → Env0 P w K mg base B frames t G → BindsTo t fd args (ps.zip us) → Vals vs us → sp vs G Q E →
    codeAny (model P w) B (.call (.ref f) args) (CR CX0 frames P w G t Q E) t
section
variable {P : Program} {w : World} {K : PySem.W.Frag} {mg : Str → Option Value} {base : Heap} {k : Nat} {f : Addr} {fd : FuncData} {ps : List Str} {sp : Sp}
theorem FnG.of (F : FnOk P w K mg base CX0 k f fd ps sp) : FnG P w K mg base k f fd ps sp :=
  ⟨F.len, fun B frames t G args us vs Q E room _ env bind rel prom => F.run B frames t G args us vs Q E room env bind rel prom⟩
/-- by the body; the room and the guards are told -/
theorem okG {x qual : Str} {st : Stmt} {N : List Str} (F : Fun K x qual st f fd) (S : FnScope N ps (defScope st)) (many : ∀ vs H Q E, sp vs H Q E → vs.length = ps.length)
    (body : ∀ (cdv : Value) (B : Around) (frames : List Env) (t : Shared) (G : Hp) (vs : List V) (Q : VK) (E : XK),
      Room k (B.deeper (envOfC qual (defScope st) t.heap.objs.size f cdv)) → (B.deeper (envOfC qual (defScope st) t.heap.objs.size f cdv)).guards = some [] → sp vs G Q E →
      ∃ r, PSs (cxOf CX0 P w K mg base N qual (defScope st) f cdv B frames t G E).nox (defBody st) r ∧ r { nx := fun _ G' => Q .non G', rt := Q } (start N vs) G) :
    FnG P w K mg base (k + 1) f fd ps sp := by
  obtain ⟨oc, od, kV, doc, pm, an, cdv, ct, osl, rfl, at_f, code⟩ := F.ex
  refine ⟨many, fun B frames t G args us vs Q E room guards env bind rel prom => ?_⟩
  have there : K.In t.heap := env.mod.kin.keeps fun b o q => (env.bs b o q).1
  refine codeAny_call_function room.depth (there _ _ at_f) rfl S.co S.gen rfl (PySem.W.codeRec_of there code) (bind _ _ _ _ ?_)
  refine wpAny_newFunctionEnv_cells S.kind (fun ⟨n, v⟩ hy => ?_) fun env1 same t1 inside => ?_
  · rcases S.par n (List.of_mem_zip hy).1 with q | q
    · exact Or.inl q
    · exact Or.inr ⟨q, PySem.W.cellsFrom_some _ _ _ (Or.inl q)⟩
  · subst same
    have free : t.heap.NoLimit := env.mod.nolimit.keeps fun b o q => (env.bs b o q).1
    refine ⟨free.keeps inside.toInCall.keep, codeAny_func ?_⟩
    obtain ⟨r, walks, reads⟩ := body cdv B frames t G vs Q E (room.deeper _) guards prom
    have J := inv_start (CX := CX0) (P := P) (w := w) (E := E) S room.hd env (many _ _ _ _ prom) rel inside
    refine wpAny_mono (walks.nox.run [] t1 (start N vs) G _ J reads) (fun flow t2 got => ?_) (fun _ _ no => no)
    cases flow with
    | ret u => obtain ⟨v, σ2, G2, J2, rv, q⟩ := got; exact ⟨v, G2, J2.os, J2.bare, J2.base, J2.hok, rv, q⟩
    | next => obtain ⟨σ2, G2, J2, q⟩ := got; exact ⟨V.non, G2, J2.os, J2.bare, J2.base, J2.hok, rfl, q⟩
    | brk => obtain ⟨_, _, _, no⟩ := got; exact no.elim
    | cont => obtain ⟨_, _, _, no⟩ := got; exact no.elim
end
section
variable {X : Cx} {k : Nat} {f : Addr} {fd : FuncData} {ps : List Str} {sp : Sp}
/-- f(e, ..) where no guard is around -/
theorem callG {x : Str} {p pos : Pos} {e : Expr} {es : List Expr} {ta : TA} (F : FnG X.prog X.w X.K X.mg X.base k f fd ps sp) (room : Room k X.A) (guards : X.A.guards = some []) (hg : Gl X x) (hm : X.mg x = some (.ref f))
    (hk : PySem.W.keepIn X.K (.ref f) = true) (hb : Binds X.K fd ps []) (ha : PA X (e :: es) ta) (nd : (x == ("__debug__" : Str)) = false := by decide)
    (he : starEach (e :: es) X.env = (false, eval e X.env) :: starEach es X.env := by rfl) (hp : (backTo pos (starEach es X.env)).any (·.1) = false := by rfl) :
    PE X (.Call (.Name x p) (e :: es) [] pos) (fun σ H Q => ta σ H fun vs H1 => sp vs H1 Q E0) := by
  constructor
  intro pins s σ H Q I h
  refine wpAny_Call_Name_kw (ld_glob I hg hm ?_ nd)
  refine PySem.W.callWith_K (h₀ := X.base) I.ok.mod.kin hk (thn (ha.run pos pins s σ H _ I h) ?_) he hp
  rintro us s1 ⟨vs, H1, I1, rel, prom⟩
  refine ⟨I1.kIn, ?_⟩
  have bind := hb s1 us I1.kIn (by rw [List.append_nil, ← rel.length]; exact F.many _ _ _ _ prom)
  rw [List.append_nil] at bind
  refine wpAny_call (codeAny_mono (F.go X.A X.stack s1 H1 ⟨us, []⟩ us vs Q E0 room guards I1.env0 bind rel prom) fun r s2 got => ?_)
  match r, got with
  | .ok (.ret u), got => exact I1.after got
  | .ok .next, no => exact no.elim
  | .ok .brk, no => exact no.elim
  | .ok .cont, no => exact no.elim
  | .error _, no => exact no.elim
end
end Vd

namespace Vd
open PySem PySem.Spec PyProof.Rows L2

/-! ### == of tuples within one model -/
section
open AutoSeq1 MeetsSeq MeetsSeq2 MeetsSeq3 SeqRoads2
variable {prog : Program} {w : World}
theorem eqTup (l b : Addr) (xs ys : Array Value) (n m : Nat) (d1 d2 : Option Addr) (s1 s2 : Array (Option Value)) (same : xs.size = ys.size) :
    MeetsIn prog w (Builtin.«tuple.__eq__» ⟨[.ref l, .ref b], []⟩)
      (fun A R s => s.heap.get? l = some { cls := .type "tuple", dict := d1, data := .seq xs n, slots := s1 } ∧ s.heap.get? b = some { cls := .type "tuple", dict := d2, data := .seq ys m, slots := s2 } ∧
        (∀ j (p : j < xs.size) (q : j < ys.size), SeqAt.EqP prog w A.in1 s xs[j] ys[j] true) ∧ R (.ok (.ret (.bool true))) s) := by
  refine MeetsIn.of_wp fun A R s h => ?_
  obtain ⟨hp, g, d, tk, os⟩ := s
  obtain ⟨hl, hb, he, h⟩ := h
  have both := AutoSeq1.sub_tuple_tuple
  have len : (xs.toList.zip ys.toList).length = xs.size := by simp [same]
  wp_walk using wpAny_loadPart' hl, wpAny_loadPart' hb, wpAny_forIn_list _ (fun rest b s' => b.1 = none ∧ s' = ⟨hp, g, d, tk, os⟩ ∧ ∃ i, rest = (xs.toList.zip ys.toList).drop i) _
  case turn =>
    rintro ⟨y, x⟩ rest b s' ⟨hb', rfl, i, hz⟩
    have small : i < (xs.toList.zip ys.toList).length := by
      refine Nat.lt_of_not_le fun big => ?_
      rw [List.drop_of_length_le big] at hz
      cases hz
    have p : i < xs.size := len ▸ small
    have q : i < ys.size := same ▸ p
    rw [List.drop_eq_getElem_cons small] at hz
    injection hz with yx tail
    obtain ⟨ey, ex⟩ := Prod.mk.inj yx
    have ey' : y = xs[i] := by simpa using ey
    have ex' : x = ys[i] := by simpa using ex
    subst ey' ex'
    refine wpAny_bind (he i p q _ _ ?_)
    wp_walk
    exact ⟨rfl, rfl, i + 1, tail⟩
  case fin =>
    rintro ⟨b1, b2⟩ s' ⟨none1, rfl, i, _⟩
    simp only at none1
    subst none1
    wp_walk
    refine ⟨_, rfl, ?_⟩
    simpa [Builtin.Tuple.tupleCompareSizes, same] using h
  case h => exact ⟨rfl, rfl, 0, rfl⟩
theorem rcTup {A : Around} {s : Shared} {l b : Addr} {xs ys : Array Value} (hl : s.heap.IsTuple l xs) (hb : s.heap.IsTuple b ys) (same : xs.size = ys.size) (room : A.units < cLine)
    (he : ∀ j (p : j < xs.size) (q : j < ys.size), SeqAt.EqP prog w A.in1 s xs[j] ys[j] true) (E Q : Value → Shared → Prop) (h : Q (.bool true) s) : wpAny (model prog w) A (richCompare .Eq (.ref l) (.ref b)) Q E s := by
  obtain ⟨⟨_, d1, _, s1⟩, o1, rfl, n, rfl⟩ := id hl
  obtain ⟨⟨_, d2, _, s2⟩, o2, rfl, m, rfl⟩ := id hb
  have t1 : s.TypeIs (.ref l) "tuple" := ⟨_, o1, rfl⟩
  refine wpAny_richCompare_same_room (op := .Eq) t1 ⟨_, o2, rfl⟩ F.slot_tuple_eq ?_ room
  exact call_meetsIn F.slot_tuple_eq t1 F.entry_tuple_eq (F.args_tuple_eq_2 _ _) (eqTup l b xs ys n m d1 d2 s1 s2 same) ⟨o1, o2, he, (show Value.bool true ≠ Value.notImplemented ∧ Q (.bool true) s from ⟨fun no => (nomatch no), h⟩)⟩
end

/-! ### data in a heap: its dicts are not the module's own -/
mutual
inductive Rd2 (h : Heap) : Value → PyData → Prop
  | non : Rd2 h .none .none
  | bl (b : Bool) : Rd2 h (.bool b) (.bool b)
  | int (i : Int) (t : Tok) : Rd2 h (.int i t) (.int i)
  | str (x : Str) (t : Tok) : Rd2 h (.str x t) (.str x)
  | lst {a : Addr} {o : Obj} {items : Array Value} {n : Nat} {ds : List PyData} : h.get? a = some o → o.cls = .type "list" → o.data = .seq items n → Rd2s h items.toList ds → Rd2 h (.ref a) (.list ds)
  | tup {a : Addr} {o : Obj} {items : Array Value} {n : Nat} {ds : List PyData} : h.get? a = some o → o.cls = .type "tuple" → o.data = .seq items n → Rd2s h items.toList ds → Rd2 h (.ref a) (.tuple ds)
  | dic {a : Addr} {o : Obj} {es : Array DictEntry} {n : Nat} {ds : List (PyData × PyData)} : (a == sysModules) = false → h.get? a = some o → o.cls = .type "dict" → o.data = .dict es n →
      Rd2s h (es.toList.map (·.key)) (ds.map (·.1)) → Rd2s h (es.toList.map (·.val)) (ds.map (·.2)) → Rd2 h (.ref a) (.dict ds)
inductive Rd2s (h : Heap) : List Value → List PyData → Prop
  | nil : Rd2s h [] []
  | cons {v : Value} {vs : List Value} {d : PyData} {ds : List PyData} : Rd2 h v d → Rd2s h vs ds → Rd2s h (v :: vs) (d :: ds)
end
mutual
theorem Rd2.reads {h : Heap} : ∀ {v : Value} {d : PyData}, Rd2 h v d → ∃ as, Reads h v d as
  | _, _, .non => ⟨_, Reads.none⟩
  | _, _, .bl b => ⟨_, Reads.bool b⟩
  | _, _, .int i t => ⟨_, Reads.int i t⟩
  | _, _, .str x t => ⟨_, Reads.str x t⟩
  | _, _, .lst a b c r => let ⟨_, q⟩ := Rd2s.reads r; ⟨_, Reads.list a b c q⟩
  | _, _, .tup a b c r => let ⟨_, q⟩ := Rd2s.reads r; ⟨_, Reads.tuple a b c q⟩
  | _, _, .dic _ a b c r r' => let ⟨_, q⟩ := Rd2s.reads r; let ⟨_, q'⟩ := Rd2s.reads r'; ⟨_, Reads.dict a b c q q'⟩
theorem Rd2s.reads {h : Heap} : ∀ {vs : List Value} {ds : List PyData}, Rd2s h vs ds → ∃ as, ReadsAll h vs ds as
  | _, _, .nil => ⟨_, ReadsAll.nil⟩
  | _, _, .cons r rs => let ⟨_, q⟩ := Rd2.reads r; let ⟨_, q'⟩ := Rd2s.reads rs; ⟨_, ReadsAll.cons q q'⟩
end
/-- what can be shown, within the line -/
def Shows (d : PyData) : Prop := d.showable = true ∧ d.shown.length ≤ sizeLine
def ShowsAll (ds : List PyData) : Prop := PyData.showableAll ds = true ∧ ∀ t ∈ PyData.shownAll ds, t.length ≤ sizeLine
theorem ShowsAll.of_list {ds : List PyData} (h : Shows (.list ds)) : ShowsAll ds :=
  ⟨by simpa [PyData.showable] using h.1, fun t m => Nat.le_trans (listText_mem_le m) (by simpa only [PyData.shown] using h.2)⟩
theorem ShowsAll.of_tup {ds : List PyData} (h : Shows (.tuple ds)) : ShowsAll ds :=
  ⟨by simpa [PyData.showable] using h.1, fun t m => Nat.le_trans (tupleText_mem_le m) (by simpa only [PyData.shown] using h.2)⟩
theorem ShowsAll.of_dic {ds : List (PyData × PyData)} (h : Shows (.dict ds)) : ShowsAll (ds.map (·.1)) ∧ ShowsAll (ds.map (·.2)) := by
  obtain ⟨a, b⟩ := PyData.showableKv_split ds (by simpa [PyData.showable] using h.1)
  have z : (dictText (PyData.shownKv ds)).length ≤ sizeLine := by simpa only [PyData.shown] using h.2
  refine ⟨⟨a, fun t m => ?_⟩, b, fun t m => ?_⟩
  · obtain ⟨p, hp, hl⟩ := PyData.shownKv_key_le ds t m
    exact Nat.le_trans hl (Nat.le_trans (dictText_mem_le hp) z)
  · obtain ⟨p, hp, hl⟩ := PyData.shownKv_val_le ds t m
    exact Nat.le_trans hl (Nat.le_trans (dictText_mem_le hp) z)
section
variable {prog : Program} {w : World} {h : Heap}
/-- a list's, a tuple's, a dict's parts, none of which is the object itself -/
theorem apart {a : Addr} {d : PyData} {n : Nat} {bs : List Addr} (r : Rd2 h (.ref a) d) (deep : n < d.depth) (low : ReadAtMost h n bs) : a ∉ bs :=
  let ⟨_, q⟩ := r.reads; not_mem_of_deeper q deep low
theorem with_own {a : Addr} {d : PyData} {n : Nat} {bs : List Addr} (r : Rd2 h (.ref a) d) (deep : n ≤ d.depth) (low : ReadAtMost h n bs) : ReadAtMost h d.depth (a :: bs) :=
  let ⟨_, q⟩ := r.reads; ReadAtMost.cons q deep low
def KAll (prog : Program) (w : World) (h : Heap) (vs : List Value) (ds : List PyData) : Prop := ∃ bs, ReadAtMost h (PyData.depthAll ds) bs ∧ ReprAllK prog w bs h (PyData.depthAll ds) vs (PyData.shownAll ds)
theorem kEnt {es : List DictEntry} {ds : List (PyData × PyData)} (k : KAll prog w h (es.map (·.key)) (ds.map (·.1))) (v : KAll prog w h (es.map (·.val)) (ds.map (·.2))) :
    ∃ bs, ReadAtMost h (PyData.depthKv ds) bs ∧ ReprEntriesK prog w bs h (PyData.depthKv ds) es (PyData.shownKv ds) := by
  obtain ⟨b1, l1, k1⟩ := k
  obtain ⟨b2, l2, k2⟩ := v
  refine ⟨b1 ++ b2, (l1.mono (PyData.depthAll_keys_le ds)).append (l2.mono (PyData.depthAll_vals_le ds)), ?_⟩
  rw [PyData.shownKv_eq]
  exact .of_two es _ _ (k1.more_le (fun b m => List.mem_append_left b2 m) (PyData.depthAll_keys_le ds)) (k2.more_le (fun b m => List.mem_append_right b1 m) (PyData.depthAll_vals_le ds))
mutual
theorem repK : ∀ {v : Value} {d : PyData}, Rd2 h v d → Shows d → ∃ bs, ReadAtMost h d.depth bs ∧ ReprK prog w bs h d.depth v d.shown
  | _, _, .non, _ => ⟨[], (fun _ no => nomatch no), by simpa only [PyData.shown] using ReprK.of_is ReprIs.none _ _ _⟩
  | _, _, .bl b, _ => ⟨[], (fun _ no => nomatch no), by simpa only [PyData.shown] using ReprK.of_is (ReprIs.bool b) _ _ _⟩
  | _, _, .int i t, z => ⟨[], (fun _ no => nomatch no), by simpa only [PyData.shown] using ReprK.of_is (ReprIs.int t (of_decide_eq_true z.1)) _ _ _⟩
  | _, _, .str x t, z => ⟨[], (fun _ no => nomatch no), by simpa only [PyData.shown] using ReprK.of_is (ReprIs.str x t z.2) _ _ _⟩
  | _, _, .lst (a := a) (items := items) (ds := ds) o1 o2 o3 r, z => by
    have me : Rd2 h (.ref a) (.list ds) := .lst o1 o2 o3 r
    obtain ⟨bs, low, ks⟩ := repKs r (.of_list z)
    refine ⟨a :: bs, with_own me (Nat.le_succ _) low, ?_⟩
    show ReprK prog w (a :: bs) h (PyData.depthAll ds + 1) (.ref a) (listText (PyData.shownAll ds))
    obtain ⟨l⟩ := items
    cases l with
    | nil =>
      cases (show Rd2s h [] ds from r)
      exact ReprK.listEmpty o1 o2 o3
    | cons x l => exact ReprK.list o1 o2 o3 (apart me (Nat.lt_succ_self _) low) (by simpa using ks.length_eq) fun i y e => ks.item i y (by simpa using e)
  | _, _, .tup (a := a) (ds := ds) o1 o2 o3 r, z => by
    have me : Rd2 h (.ref a) (.tuple ds) := .tup o1 o2 o3 r
    obtain ⟨bs, low, ks⟩ := repKs r (.of_tup z)
    exact ⟨a :: bs, with_own me (Nat.le_succ _) low, ReprK.tuple o1 o2 o3 (apart me (Nat.lt_succ_self _) low) ks⟩
  | _, _, .dic (a := a) (ds := ds) far o1 o2 o3 r r', z => by
    have me : Rd2 h (.ref a) (.dict ds) := .dic far o1 o2 o3 r r'
    obtain ⟨bs, low, ks⟩ := kEnt (repKs r (ShowsAll.of_dic z).1) (repKs r' (ShowsAll.of_dic z).2)
    exact ⟨a :: bs, with_own me (Nat.le_succ _) low, ReprK.dict o1 o2 o3 far (apart me (Nat.lt_succ_self _) low) ks⟩
theorem repKs : ∀ {vs : List Value} {ds : List PyData}, Rd2s h vs ds → ShowsAll ds → KAll prog w h vs ds
  | _, _, .nil, _ => ⟨[], (fun _ no => nomatch no), .nil⟩
  | _, _, .cons (d := d) (ds := ds) r rs, z => by
    have z1 : d.showable = true ∧ PyData.showableAll ds = true := by simpa [PyData.showableAll] using z.1
    obtain ⟨b1, l1, k1⟩ := repK r ⟨z1.1, z.2 _ (List.Mem.head _)⟩
    obtain ⟨b2, l2, k2⟩ := repKs rs ⟨z1.2, fun t m => z.2 t (List.Mem.tail _ m)⟩
    have le1 : d.depth ≤ PyData.depthAll (d :: ds) := Nat.le_max_left _ _
    have le2 : PyData.depthAll ds ≤ PyData.depthAll (d :: ds) := Nat.le_max_right _ _
    exact ⟨b1 ++ b2, (l1.mono le1).append (l2.mono le2), .cons ((k1.more fun b m => List.mem_append_left _ m).level_le le1) (k2.more_le (fun b m => List.mem_append_right _ m) le2)⟩
end
/-- repr(v) -/
theorem reprRun {A : Around} {E : Value → Shared → Prop} {s : Shared} {Q : Value → Shared → Prop} : ∀ {v : Value} {d : PyData}, Rd2 s.heap v d → Shows d → A.guards = some [] → A.units + (d.depth + 1) < cLine →
    (∀ h' u tk, (∀ b o, s.heap.get? b = some o → h'.get? b = some o) → Q (.str d.shown u) { s with heap := h', toks := tk }) → wpAny (model prog w) A (call (.builtin "repr") [v]) Q E s
  | _, _, .non, _, _, _, q => PySem.P.repr_of_none (q _ _ _ fun _ _ e => e)
  | _, _, .bl b, _, _, _, q => PySem.P.repr_of_bool (q _ _ _ fun _ _ e => e)
  | _, _, .int i t, z, _, _, q => PySem.P.repr_of_int (of_decide_eq_true z.1) (q _ _ _ fun _ _ e => e)
  | _, _, .str x t, z, _, _, q => PySem.P.repr_of_str (q _ _ _ fun _ _ e => e) z.2
  | _, _, .lst (a := a) (items := items) (ds := ds) o1 o2 o3 r, z, g, room, q => by
    have me : Rd2 s.heap (.ref a) (.list ds) := .lst o1 o2 o3 r
    obtain ⟨bs, low, ks⟩ := repKs (prog := prog) (w := w) r (.of_list z)
    have room' : A.units + (PyData.depthAll ds + 1 + 1) < cLine := room
    refine call_repr_slot (by omega) ⟨_, o1, o2⟩ F.slot_list_repr.toG ?_
    obtain ⟨l⟩ := items
    cases l with
    | nil =>
      cases (show Rd2s s.heap [] ds from r)
      exact call_list_repr_empty ⟨_, o1, o2⟩ o1 o3 ⟨_, _, rfl, q s.heap _ _ fun _ _ e => e⟩
    | cons x l =>
      exact call_list_reprK o1 o2 o3 (apart me (Nat.lt_succ_self _) low) (by simpa using ks.length_eq) (fun i y e => ks.item i y (by simpa using e)) g (fun b _ => Clear.nil b) (by show A.units + 1 + _ < cLine; omega) (fun _ _ e => e)
        (fun h' u tk k => ⟨_, _, rfl, q h' u tk k⟩) z.2
  | _, _, .tup (a := a) (ds := ds) o1 o2 o3 r, z, g, room, q => by
    have me : Rd2 s.heap (.ref a) (.tuple ds) := .tup o1 o2 o3 r
    obtain ⟨bs, low, ks⟩ := repKs (prog := prog) (w := w) r (.of_tup z)
    have room' : A.units + (PyData.depthAll ds + 1 + 1) < cLine := room
    refine call_repr_slot (by omega) ⟨_, o1, o2⟩ F.slot_tuple_repr ?_
    exact call_tuple_reprK o1 o2 o3 (apart me (Nat.lt_succ_self _) low) ks g (fun b _ => Clear.nil b) (by show A.units + 1 + _ < cLine; omega) (fun _ _ e => e) (fun h' u tk k => ⟨_, _, rfl, q h' u tk k⟩) z.2
  | _, _, .dic (a := a) (ds := ds) far o1 o2 o3 r r', z, g, room, q => by
    have me : Rd2 s.heap (.ref a) (.dict ds) := .dic far o1 o2 o3 r r'
    obtain ⟨bs, low, ks⟩ := kEnt (repKs (prog := prog) (w := w) r (ShowsAll.of_dic z).1) (repKs r' (ShowsAll.of_dic z).2)
    have room' : A.units + (PyData.depthKv ds + 1 + 1) < cLine := room
    refine call_repr_slot (by omega) ⟨_, o1, o2⟩ F.slot_dict_repr ?_
    exact call_dict_reprK o1 o2 o3 far (apart me (Nat.lt_succ_self _) low) ks g (fun b _ => Clear.nil b) (by show A.units + 1 + _ < cLine; omega) (fun _ _ e => e) (fun h' u tk k => ⟨_, _, rfl, q h' u tk k⟩) z.2
end

/-! ### data in the abstract heap -/
def keyD : Key → PyData
  | .inl i => .int i
  | .inr x => .str x
mutual
/-- the value v is the data d: None, truths, ints, texts, lists, tuples, dicts by ints and texts -/
inductive Dat (K : PySem.W.Frag) (H : Hp) : V → PyData → Prop
  | non : Dat K H .non .none
  | bl (b : Bool) : Dat K H (.bl b) (.bool b)
  | int (i : Int) : Dat K H (.int i) (.int i)
  | str (x : Str) : Dat K H (.str x) (.str x)
  | lst {a : Addr} {xs : List V} {ds : List PyData} : SqL K H a xs → DatAll K H xs ds → Dat K H (.ref a) (.list ds)
  | tup {a : Addr} {xs : List V} {ds : List PyData} : SqT K H a xs → DatAll K H xs ds → Dat K H (.ref a) (.tuple ds)
  | dic {a : Addr} {kvs : List (Key × V)} {ds : List (PyData × PyData)} : H a = some (.dK kvs) → DatKv K H kvs ds → Dat K H (.ref a) (.dict ds)
inductive DatAll (K : PySem.W.Frag) (H : Hp) : List V → List PyData → Prop
  | nil : DatAll K H [] []
  | cons {v : V} {vs : List V} {d : PyData} {ds : List PyData} : Dat K H v d → DatAll K H vs ds → DatAll K H (v :: vs) (d :: ds)
inductive DatKv (K : PySem.W.Frag) (H : Hp) : List (Key × V) → List (PyData × PyData) → Prop
  | nil : DatKv K H [] []
  | cons {k : Key} {v : V} {r : List (Key × V)} {d : PyData} {ds : List (PyData × PyData)} : Dat K H v d → DatKv K H r ds → DatKv K H ((k, v) :: r) ((keyD k, d) :: ds)
end

/-! #### it stands in the heap -/
section
variable {X : Cx} {pins : List (Addr × Obj)} {σ : L2.St} {H : Hp} {s : Shared}
theorem key_reads {h : Heap} {k : Key} {u : Value} (r : keyIs k u = true) : Rd2 h u (keyD k) := by
  rcases keyIs_shape r with ⟨i, t, rfl, rfl⟩ | ⟨x, t, rfl, rfl⟩
  · exact .int i t
  · exact .str x t
theorem keys_read {w : World} {P : Program} {h : Heap} {es : List DictEntry} {vs : List (Key × Value)} (p : Pairs (mixKind P w) es vs) : Rd2s h (es.map (·.key)) (vs.map fun q => keyD q.1) ∧ es.map (·.val) = vs.map (·.2) := by
  induction p with
  | nil => exact ⟨.nil, rfl⟩
  | cons a b c ih => exact ⟨.cons (key_reads a) ih.1, by simp only [List.map_cons, b, ih.2]⟩
mutual
theorem Dat.rds (I : Inv X pins σ H s) : ∀ (d : PyData) (v : V) (u : Value), Dat X.K H v d → RelV v u → Rd2 s.heap u d
  | .none, _, _, h, r => by cases h; cases r; exact .non
  | .bool b, _, _, h, r => by cases h; cases r; exact .bl b
  | .int i, _, _, h, r => by cases h; obtain ⟨t, rfl⟩ := r; exact .int i t
  | .str x, _, _, h, r => by cases h; obtain ⟨t, rfl⟩ := r; exact .str x t
  | .list ds, _, _, h, r => by
    cases h with
    | @lst a xs _ at_a items =>
      cases r
      obtain ⟨its, rel, ⟨o, n, e1, e2, _, e3⟩, _⟩ := I.list at_a
      exact .lst e1 e2 e3 (DatAll.rds I ds _ its items rel)
  | .tuple ds, _, _, h, r => by
    cases h with
    | @tup a xs _ at_a items =>
      cases r
      obtain ⟨its, rel, ⟨o, e1, e2, n, e3⟩, _⟩ := I.tuple at_a
      exact .tup e1 e2 e3 (DatAll.rds I ds _ its items rel)
  | .dict ds, _, _, h, r => by
    cases h with
    | @dic a kvs _ at_a items =>
      cases r
      obtain ⟨_, far, vs, rel, o, es, ep, e1, e2, e3, _, pairs, _⟩ := (show ObjOk X.prog X.w H s.heap a (.dK kvs) from I.hok a _ at_a)
      obtain ⟨vals, names⟩ := DatKv.rds I ds kvs vs items rel
      obtain ⟨keys, same⟩ := keys_read (h := s.heap) pairs
      rw [← same] at vals
      rw [← names] at keys
      exact .dic far e1 e2.1 e3 keys vals
theorem DatAll.rds (I : Inv X pins σ H s) : ∀ (ds : List PyData) (vs : List V) (us : List Value), DatAll X.K H vs ds → Vals vs us → Rd2s s.heap us ds
  | [], _, _, h, r => by cases h; cases r; exact .nil
  | d :: ds, _, _, h, r => by
    cases h with
    | cons h1 h2 =>
      cases r with
      | cons r1 r2 => exact .cons (Dat.rds I d _ _ h1 r1) (DatAll.rds I ds _ _ h2 r2)
theorem DatKv.rds (I : Inv X pins σ H s) : ∀ (ds : List (PyData × PyData)) (kvs : List (Key × V)) (vs : List (Key × Value)), DatKv X.K H kvs ds → KV kvs vs →
    Rd2s s.heap (vs.map (·.2)) (ds.map (·.2)) ∧ ds.map (·.1) = vs.map fun q => keyD q.1
  | [], _, _, h, r => by cases h; cases r; exact ⟨.nil, rfl⟩
  | d :: ds, _, _, h, r => by
    cases h with
    | @cons k v kvs d1 _ h1 h2 =>
      cases r with
      | @cons _ b _ _ r1 r2 =>
        obtain ⟨q1, q2⟩ := DatKv.rds I ds _ _ h2 r2
        have e : k = b.1 := r1.1
        exact ⟨.cons (Dat.rds I d1 v b.2 h1 r1.2) q1, by simp only [List.map_cons, q2, e]⟩
end
end
end Vd

namespace Vd
open PySem PySem.Spec PyProof.Rows L2

/-! ### equal data are equal -/
section
variable {X : Cx} {pins : List (Addr × Obj)} {σ : L2.St} {H : Hp} {s : Shared}
/-- richCompare of the same data is True -/
def RcP (P : Program) (w : World) (A : Around) (s : Shared) (u v : Value) : Prop := ∀ E Q : Value → Shared → Prop, Q (.bool true) s → wpAny (model P w) A (richCompare .Eq u v) Q E s
def EqT (P : Program) (w : World) (A : Around) (s : Shared) (u v : Value) : Prop := SeqAt.EqP P w A s u v true
def EqTs (P : Program) (w : World) (A : Around) (s : Shared) (us vs : List Value) : Prop := us.length = vs.length ∧ ∀ j (p : j < us.length) (q : j < vs.length), EqT P w A s us[j] vs[j]
theorem EqTs.nil {P : Program} {w : World} {A : Around} {s : Shared} : EqTs P w A s [] [] := ⟨rfl, fun j p _ => absurd p (Nat.not_lt_zero j)⟩
theorem EqTs.cons {P : Program} {w : World} {A : Around} {s : Shared} {u v : Value} {us vs : List Value} (h : EqT P w A s u v) (r : EqTs P w A s us vs) : EqTs P w A s (u :: us) (v :: vs) := by
  refine ⟨congrArg (· + 1) r.1, fun j p q => ?_⟩
  cases j with
  | zero => exact h
  | succ j => exact r.2 j (Nat.lt_of_succ_lt_succ p) (Nat.lt_of_succ_lt_succ q)
theorem eq_of_rc {P : Program} {w : World} {A : Around} {s : Shared} {a b : Addr} (h : a ≠ b → RcP P w A s (.ref a) (.ref b)) : EqT P w A s (.ref a) (.ref b) := by
  by_cases e : a = b
  · subst e
    exact (SeqAt.EqAt.same _).eqP
  · exact SeqAt.eqP_refs e (h e)
def display : PyData → Bool
  | .list _ | .tuple _ | .dict _ => true
  | _ => false
theorem key_one {k k' : Key} (h : keyD k = keyD k') : k = k' := by
  cases k <;> cases k' <;> simp [keyD] at h <;> simp [h]
theorem DatKv.inv {K : PySem.W.Frag} {G : Hp} {kvs : List (Key × V)} {kd d : PyData} {ds : List (PyData × PyData)} (h : DatKv K G kvs ((kd, d) :: ds)) : ∃ k v r, kvs = (k, v) :: r ∧ kd = keyD k ∧ Dat K G v d ∧ DatKv K G r ds := by
  cases h with
  | cons a b => exact ⟨_, _, _, rfl, rfl, a, b⟩
/-- the keys of two dicts with the same data are the same -/
theorem kv_val {K : PySem.W.Frag} {G : Hp} : ∀ {ds : List (PyData × PyData)} {kvs ls : List (Key × V)}, DatKv K G kvs ds → DatKv K G ls ds → kvs.map (·.1) = ls.map (·.1)
  | [], _, _, h, h' => by cases h; cases h'; rfl
  | (kd, d) :: ds, _, _, h, h' => by
    obtain ⟨k, v, r, rfl, e, _, b⟩ := h.inv
    obtain ⟨k', v', r', rfl, e', _, b'⟩ := h'.inv
    rw [List.map_cons, List.map_cons, kv_val b b', key_one (e.symm.trans e')]
mutual
theorem Dat.eqT (I : Inv X pins σ H s) : ∀ (d : PyData) (A : Around) (x y : V) (u v : Value), A.units + d.depth < cLine → Dat X.K H x d → Dat X.K H y d → RelV x u → RelV y v → EqT X.prog X.w A s u v
  | .none, A, _, _, _, _, _, h, h', r, r' => by cases h; cases h'; exact (eqAt_same r r' rfl).eqP
  | .bool b, A, _, _, _, _, _, h, h', r, r' => by cases h; cases h'; exact (eqAt_same r r' rfl).eqP
  | .int i, A, _, _, _, _, _, h, h', r, r' => by cases h; cases h'; exact (eqAt_same r r' rfl).eqP
  | .str x, A, _, _, _, _, _, h, h', r, r' => by cases h; cases h'; exact (eqAt_same r r' rfl).eqP
  | .list ds, A, _, _, _, _, room, h, h', r, r' => by
    have rc := Dat.rcT I (.list ds) A _ _ _ _ room rfl h h' r r'
    cases h; cases h'; cases r; cases r'
    exact eq_of_rc fun _ => rc
  | .tuple ds, A, _, _, _, _, room, h, h', r, r' => by
    have rc := Dat.rcT I (.tuple ds) A _ _ _ _ room rfl h h' r r'
    cases h; cases h'; cases r; cases r'
    exact eq_of_rc fun _ => rc
  | .dict ds, A, _, _, _, _, room, h, h', r, r' => by
    have rc := Dat.rcT I (.dict ds) A _ _ _ _ room rfl h h' r r'
    cases h; cases h'; cases r; cases r'
    exact eq_of_rc fun _ => rc
theorem Dat.rcT (I : Inv X pins σ H s) : ∀ (d : PyData) (A : Around) (x y : V) (u v : Value), A.units + d.depth < cLine → display d = true →
    Dat X.K H x d → Dat X.K H y d → RelV x u → RelV y v → RcP X.prog X.w A s u v
  | .none, _, _, _, _, _, _, no, _, _, _, _ => nomatch no
  | .bool _, _, _, _, _, _, _, no, _, _, _, _ => nomatch no
  | .int _, _, _, _, _, _, _, no, _, _, _, _ => nomatch no
  | .str _, _, _, _, _, _, _, no, _, _, _, _ => nomatch no
  | .list ds, A, _, _, _, _, room, _, h, h', r, r' => by
    have room2 : A.units + (PyData.depthAll ds + 1) < cLine := room
    cases h with
    | lst p1 items =>
      cases h' with
      | lst p2 items' =>
        cases r; cases r'
        obtain ⟨us, r1, l1, _⟩ := I.list p1
        obtain ⟨vs, r2, l2, _⟩ := I.list p2
        obtain ⟨len, each⟩ := DatAll.eqTs I ds A.in1 _ _ us vs (by show A.units + 1 + _ < cLine; omega) items items' r1 r2
        intro E Q q
        refine SeqAt.rcP_lists (e := fun _ => true) l1.isList l2.isList (by simpa using len) (by omega) (fun j p q => ?_) E Q ?_
        · simpa [EqT] using each j (by simpa using p) (by simpa using q)
        · rw [List.all_eq_true.mpr fun _ _ => rfl]
          exact q
  | .tuple ds, A, _, _, _, _, room, _, h, h', r, r' => by
    have room2 : A.units + (PyData.depthAll ds + 1) < cLine := room
    cases h with
    | tup p1 items =>
      cases h' with
      | tup p2 items' =>
        cases r; cases r'
        obtain ⟨us, r1, ⟨o1, e1, c1, n1, d1⟩, _⟩ := I.tuple p1
        obtain ⟨vs, r2, ⟨o2, e2, c2, n2, d2⟩, _⟩ := I.tuple p2
        obtain ⟨len, each⟩ := DatAll.eqTs I ds A.in1 _ _ us vs (by show A.units + 1 + _ < cLine; omega) items items' r1 r2
        exact rcTup ⟨o1, e1, c1, n1, d1⟩ ⟨o2, e2, c2, n2, d2⟩ (by simpa using len) (by omega) fun j p q => by simpa [EqT] using each j (by simpa using p) (by simpa using q)
  | .dict ds, A, _, _, _, _, room, _, h, h', r, r' => by
    have room2 : A.units + (PyData.depthKv ds + 1) < cLine := room
    cases h with
    | @dic a kvs _ p1 items =>
      cases h' with
      | @dic b ls _ p2 items' =>
        cases r; cases r'
        obtain ⟨_, f1, us, r1, m1⟩ := (show ObjOk X.prog X.w H s.heap a (.dK kvs) from I.hok a _ p1)
        obtain ⟨_, f2, vs, r2, m2⟩ := (show ObjOk X.prog X.w H s.heap b (.dK ls) from I.hok b _ p2)
        have nd : (vs.map (·.1)).Nodup := by obtain ⟨_, _, _, _, _, _, _, _, z⟩ := m2; exact z
        have hits := DatKv.hits I ds A.in1 kvs ls us vs vs (by show A.units + 1 + _ < cLine; omega) items items' r1 r2 nd fun _ m => m
        have len : us.length = vs.length := by
          have e := congrArg List.length (kv_val items items')
          rw [List.length_map, List.length_map] at e
          have e1 := Paired.length r1
          have e2 := Paired.length r2
          omega
        intro E Q q
        refine PySem.W.rcP_dicts (knd := mixKind X.prog X.w) (r := true) f1 f2 m1 m2 (by omega) (fun _ => hits) E Q ?_
        rw [len]
        simpa using q
theorem DatAll.eqTs (I : Inv X pins σ H s) : ∀ (ds : List PyData) (A : Around) (xs ys : List V) (us vs : List Value), A.units + PyData.depthAll ds < cLine → DatAll X.K H xs ds → DatAll X.K H ys ds → Vals xs us → Vals ys vs → EqTs X.prog X.w A s us vs
  | [], _, _, _, _, _, _, h, h', r, r' => by cases h; cases h'; cases r; cases r'; exact .nil
  | d :: ds, A, _, _, _, _, room, h, h', r, r' => by
    have room2 : A.units + max d.depth (PyData.depthAll ds) < cLine := room
    have := Nat.le_max_left d.depth (PyData.depthAll ds)
    have := Nat.le_max_right d.depth (PyData.depthAll ds)
    cases h with
    | cons a b =>
      cases h' with
      | cons a' b' =>
        cases r with
        | cons r1 r2 =>
          cases r' with
          | cons r1' r2' => exact .cons (Dat.eqT I d A _ _ _ _ (by omega) a a' r1 r1') (DatAll.eqTs I ds A _ _ _ _ (by omega) b b' r2 r2')
theorem DatKv.hits (I : Inv X pins σ H s) : ∀ (ds : List (PyData × PyData)) (A : Around) (kvs ls : List (Key × V)) (us vs all : List (Key × Value)), A.units + PyData.depthKv ds < cLine → DatKv X.K H kvs ds → DatKv X.K H ls ds → KV kvs us → KV ls vs →
    (all.map (·.1)).Nodup → (∀ p ∈ vs, p ∈ all) → PySem.W.KeqHitsP X.prog X.w A s all us true
  | [], _, _, _, _, _, _, _, h, h', r, r', _, _ => by cases h; cases r; exact .nil
  | (kd, d) :: ds, A, _, _, _, _, all, room, h, h', r, r', nd, sub => by
    have room2 : A.units + max (max kd.depth d.depth) (PyData.depthKv ds) < cLine := room
    have l1 := Nat.le_max_left (max kd.depth d.depth) (PyData.depthKv ds)
    have l2 := Nat.le_max_right (max kd.depth d.depth) (PyData.depthKv ds)
    have l3 := Nat.le_max_right kd.depth d.depth
    obtain ⟨k, v, kvs, rfl, e0, a, b⟩ := h.inv
    obtain ⟨k', v', ls, rfl, e0', a', b'⟩ := h'.inv
    have e3 : k = k' := key_one (e0.symm.trans e0')
    cases r with
    | @cons _ q _ us r1 r2 =>
      cases r' with
      | @cons _ q' _ vs r1' r2' =>
            obtain ⟨qk, qv⟩ := q
            obtain ⟨qk', qv'⟩ := q'
            have e1 : k = qk := r1.1
            have e2 : k' = qk' := r1'.1
            subst e1 e2 e3
            have at_k : valueAt all k = some qv' := by
              have mem := sub (k, qv') (List.Mem.head _)
              unfold valueAt
              clear sub r1 r1' r2 r2'
              induction all with
              | nil => exact nomatch mem
              | cons p all ih =>
                have nd' : (p.1 :: all.map (·.1)).Nodup := nd
                rcases List.mem_cons.mp mem with e | m
                · subst e
                  simp
                · have ne : p.1 ≠ k := fun e => (List.nodup_cons.mp nd').1 (e ▸ List.mem_map_of_mem (f := (·.1)) m)
                  rw [List.find?_cons_of_neg (by simpa using ne)]
                  exact ih (List.nodup_cons.mp nd').2 m
            exact .hit (e := true) (b := true) at_k (Dat.eqT I d A _ _ _ _ (by omega) a a' r1.2 r1'.2) (DatKv.hits I ds A _ _ us vs all (by omega) b b' r2 r2' nd fun p m => sub p (List.Mem.tail _ m))
end
end
section
variable {X : Cx}
/-- x == y of the same data: True -/
theorem op_eqDat (room : X.A.units + 64 < cLine) : OpR X (compareOp .Eq) (fun x y H Q => ∃ d, Dat X.K H x d ∧ Dat X.K H y d ∧ d.depth ≤ 60 ∧ Q (.bl true) H) := by
  rintro pins s σ H x y u v Q I rx ry ⟨d, h1, h2, deep, q⟩
  have fin : EP X pins σ Q (.bool true) s := ⟨.bl true, H, I, rfl, q⟩
  have go : display d = true → wpAny (model X.prog X.w) X.A (compareOp .Eq u v) (EP X pins σ Q) X.xe s := fun kind => by
    exact Dat.rcT I d X.A x y u v (by omega) kind h1 h2 rx ry _ _ fin
  have flat : ∀ z : V, x = z → y = z → scal z z = true → wpAny (model X.prog X.w) X.A (compareOp .Eq u v) (EP X pins σ Q) X.xe s := fun z e1 e2 sc => by
    subst e1
    subst e2
    exact op_eq pins s σ H _ _ u v Q I rx ry ⟨sc, by simpa using q⟩
  cases d with
  | none => cases h1; cases h2; exact flat _ rfl rfl rfl
  | bool b => cases h1; cases h2; exact flat _ rfl rfl rfl
  | int i => cases h1; cases h2; exact flat _ rfl rfl rfl
  | str x => cases h1; cases h2; exact flat _ rfl rfl rfl
  | list ds => exact go rfl
  | tuple ds => exact go rfl
  | dict ds => exact go rfl
/-- repr(x) -/
theorem call_reprD (room : X.A.units + 64 < cLine) (guards : X.A.guards = some []) : CallR X (.builtin "repr") (fun xs H Q => ∃ x d, xs = [x] ∧ Dat X.K H x d ∧ Shows d ∧ d.depth ≤ 60 ∧ Q (.str d.shown) H) := by
  rintro pins s σ H xs us Q I r ⟨x, d, rfl, h, z, deep, q⟩
  obtain ⟨u, rfl, rx⟩ := vals1 r
  exact reprRun (Dat.rds I d x u h rx) z guards (by omega) fun h' t tk kept => ⟨.str d.shown, H, I.kept (t' := tk) kept, ⟨t, rfl⟩, q⟩
/-- xs[i] in an augmented assignment -/
theorem get_list : PGet X (rIxL X.K) := by
  rintro pins s σ H x y v u Q I rx ry ⟨p, xs, i, z, rfl, rfl, hq, he, q⟩
  cases rx
  obtain ⟨t, rfl⟩ := ry
  obtain ⟨its, r, pl, hz⟩ := I.list hq
  obtain ⟨j, h1, h2, h3, h4, h5⟩ := atI_get he
  obtain ⟨w, ew, rw'⟩ := r.get h2
  have len := r.length
  have wide := line63
  have fin : EP X pins σ Q w s := ⟨z, H, I, rw', q⟩
  by_cases up : 0 ≤ i
  · rw [seqIndex_of up h5] at h1
    cases h1
    exact wpAny_getItem_list pl.isList up (by omega) (by simpa using ew) fin
  · rw [seqIndex_neg (by omega) h4] at h1
    have e := Option.some.inj h1
    rw [len] at e
    exact wpAny_getItem_list_neg pl.isList (by omega) (by rw [List.size_toArray] <;> omega) (by omega) (by rw [List.size_toArray, e]; simpa using ew) fin
end
end Vd

namespace Vd
open PySem PySem.Spec PyProof.Rows L2

/-! ### how long what is shown can be -/
def signsOk (x : Str) : Bool := x.cps.toList.all fun c => decide (c < 16 ^ 8)
mutual
def wgt : PyData → Nat
  | .none => 4
  | .bool _ => 5
  | .int _ => 1921
  | .str x => 10 * x.length + 2
  | .list xs => wgts xs + 2
  | .tuple xs => wgts xs + 4
  | .dict kvs => wgtk kvs + 2
def wgts : List PyData → Nat
  | [] => 0
  | x :: xs => wgt x + 2 + wgts xs
def wgtk : List (PyData × PyData) → Nat
  | [] => 0
  | (k, v) :: r => wgt k + wgt v + 4 + wgtk r
end
mutual
def nice : PyData → Bool
  | .none => true
  | .bool _ => true
  | .int i => decide (i.natAbs.log2 < 1920)
  | .str x => signsOk x
  | .list xs => nices xs
  | .tuple xs => nices xs
  | .dict kvs => nicek kvs
def nices : List PyData → Bool
  | [] => true
  | x :: xs => nice x && nices xs
def nicek : List (PyData × PyData) → Bool
  | [] => true
  | (k, v) :: r => nice k && nice v && nicek r
end
/-- texts, joined by two signs each -/
def sums (ts : List Str) : Nat := (ts.map fun t => t.length + 2).sum
theorem sums_cons (t : Str) (ts : List Str) : sums (t :: ts) = t.length + 2 + sums ts := by simp [sums]
theorem two_signs (k : Nat) : (if k > 0 then ", " else "" : Str).length ≤ 2 := by
  split <;> decide
theorem from_le : ∀ (ts : List Str) (k : Nat) (acc : Str), (textFrom k acc ts).length ≤ acc.length + sums ts
  | [], k, acc => Nat.le_add_right _ _
  | t :: ts, k, acc => by
    have ih := from_le ts (k + 1) (acc ++ (if k > 0 then ", " else "" : String) ++ t)
    rw [strLen_append, strLen_append] at ih
    rw [sums_cons]
    have two : (Str.ofString (if k > 0 then ", " else "")).length ≤ 2 := by split <;> decide
    unfold textFrom
    omega
theorem join_le : ∀ ts : List Str, (Str.join ", " ts).length ≤ sums ts
  | [] => Nat.zero_le _
  | [x] => by show x.length ≤ _; rw [sums_cons]; omega
  | x :: y :: r => by
    have ih := join_le (y :: r)
    show (x ++ (", " : Str) ++ Str.join ", " (y :: r)).length ≤ _
    rw [strLen_append, strLen_append, sums_cons]
    have two : (Str.ofString ", ").length = 2 := by decide
    omega
theorem list_le (ts : List Str) : (listText ts).length ≤ sums ts + 2 := by
  unfold listText
  rw [strLen_append]
  have h := from_le ts 0 "["
  have e1 : (Str.ofString "[").length = 1 := by decide
  have e2 : (Str.ofString "]").length = 1 := by decide
  omega
theorem tup_le (ts : List Str) : (tupleText ts).length ≤ sums ts + 4 := by
  unfold tupleText
  rw [strLen_append, strLen_append]
  have h := join_le ts
  have e1 : (Str.ofString "(").length = 1 := by decide
  have e2 : (Str.ofString (if (ts.length == 1) = true then ",)" else ")")).length ≤ 2 := by split <;> decide
  omega
theorem dict_le (ts : List Str) : (dictText ts).length ≤ sums ts + 2 := by
  unfold dictText
  rw [strLen_append, strLen_append]
  have h := join_le ts
  have e1 : (Str.ofString "{").length = 1 := by decide
  have e2 : (Str.ofString "}").length = 1 := by decide
  omega
mutual
theorem shown_le : ∀ d : PyData, nice d = true → d.shown.length ≤ wgt d
  | .none, _ => by simp only [PyData.shown, wgt]; decide
  | .bool b, _ => by simp only [PyData.shown, wgt]; cases b <;> decide
  | .int i, h => by simp only [PyData.shown, wgt]; exact int_text_len_1921 (of_decide_eq_true (by simpa [nice] using h))
  | .str x, h => by
    simp only [PyData.shown, wgt]
    refine StrLaws.reprText_len x fun c m => ?_
    have all : signsOk x = true := by simpa [nice] using h
    exact of_decide_eq_true (List.all_eq_true.mp all c m)
  | .list xs, h => by
    have ih := showns_le xs (by simpa [nice] using h)
    simp only [PyData.shown, wgt]
    exact Nat.le_trans (list_le _) (Nat.add_le_add_right ih 2)
  | .tuple xs, h => by
    have ih := showns_le xs (by simpa [nice] using h)
    simp only [PyData.shown, wgt]
    exact Nat.le_trans (tup_le _) (Nat.add_le_add_right ih 4)
  | .dict kvs, h => by
    have ih := shownk_le kvs (by simpa [nice] using h)
    simp only [PyData.shown, wgt]
    exact Nat.le_trans (dict_le _) (Nat.add_le_add_right ih 2)
theorem showns_le : ∀ ds : List PyData, nices ds = true → sums (PyData.shownAll ds) ≤ wgts ds
  | [], _ => by simp [PyData.shownAll, sums]
  | d :: ds, h => by
    have h' : nice d = true ∧ nices ds = true := by simpa [nices] using h
    have a := shown_le d h'.1
    have b := showns_le ds h'.2
    simp only [PyData.shownAll, wgts, sums_cons]
    omega
theorem shownk_le : ∀ ds : List (PyData × PyData), nicek ds = true → sums (PyData.shownKv ds) ≤ wgtk ds
  | [], _ => by simp [PyData.shownKv, sums]
  | (k, v) :: ds, h => by
    have h' : (nice k = true ∧ nice v = true) ∧ nicek ds = true := by simpa [nicek] using h
    have a := shown_le k h'.1.1
    have b := shown_le v h'.1.2
    have c := shownk_le ds h'.2
    have e : (Str.ofString ": ").length = 2 := by decide
    simp only [PyData.shownKv, wgtk, sums_cons]
    rw [strLen_append, strLen_append]
    omega
end
mutual
theorem showable_of : ∀ d : PyData, nice d = true → d.showable = true
  | .none, _ => rfl
  | .bool _, _ => rfl
  | .int i, h => by simpa [nice, PyData.showable] using h
  | .str _, _ => rfl
  | .list xs, h => by simpa [PyData.showable] using showables_of xs (by simpa [nice] using h)
  | .tuple xs, h => by simpa [PyData.showable] using showables_of xs (by simpa [nice] using h)
  | .dict kvs, h => by simpa [PyData.showable] using showablek_of kvs (by simpa [nice] using h)
theorem showables_of : ∀ ds : List PyData, nices ds = true → PyData.showableAll ds = true
  | [], _ => rfl
  | d :: ds, h => by
    have h' : nice d = true ∧ nices ds = true := by simpa [nices] using h
    simp [PyData.showableAll, showable_of d h'.1, showables_of ds h'.2]
theorem showablek_of : ∀ ds : List (PyData × PyData), nicek ds = true → PyData.showableKv ds = true
  | [], _ => rfl
  | (k, v) :: ds, h => by
    have h' : (nice k = true ∧ nice v = true) ∧ nicek ds = true := by simpa [nicek] using h
    simp [PyData.showableKv, showable_of k h'.1.1, showable_of v h'.1.2, showablek_of ds h'.2]
end
theorem Shows.of {d : PyData} (h : nice d = true) (low : wgt d ≤ 10000000) : Shows d :=
  ⟨showable_of d h, Nat.le_trans (shown_le d h) (Nat.le_trans low (by rw [sizeLine_eq]; decide))⟩

/-! ### data where the heap grows -/
theorem Rd.up {H H' : Hp} (e : ∀ p o, H p = some o → H' p = some o) {a : Addr} {u : HO} (h : Rd H a u) : Rd H' a u := by
  rcases h with h | ⟨o, h⟩
  · exact .inl (e _ _ h)
  · exact .inr ⟨o, e _ _ h⟩
theorem sql_up {K : PySem.W.Frag} {H H' : Hp} (e : ∀ p o, H p = some o → H' p = some o) {a : Addr} {xs : List V} (h : SqL K H a xs) : SqL K H' a xs := by
  rcases h with h | h
  · exact .inl (Rd.up e h)
  · exact .inr h
theorem sqt_up {K : PySem.W.Frag} {H H' : Hp} (e : ∀ p o, H p = some o → H' p = some o) {a : Addr} {xs : List V} (h : SqT K H a xs) : SqT K H' a xs := by
  rcases h with h | h
  · exact .inl (Rd.up e h)
  · exact .inr h
mutual
theorem Dat.up {K : PySem.W.Frag} {H H' : Hp} (e : ∀ p o, H p = some o → H' p = some o) : ∀ {v : V} {d : PyData}, Dat K H v d → Dat K H' v d
  | _, _, .non => .non
  | _, _, .bl b => .bl b
  | _, _, .int i => .int i
  | _, _, .str x => .str x
  | _, _, .lst a b => .lst (sql_up e a) (DatAll.up e b)
  | _, _, .tup a b => .tup (sqt_up e a) (DatAll.up e b)
  | _, _, .dic a b => .dic (e _ _ a) (DatKv.up e b)
theorem DatAll.up {K : PySem.W.Frag} {H H' : Hp} (e : ∀ p o, H p = some o → H' p = some o) : ∀ {vs : List V} {ds : List PyData}, DatAll K H vs ds → DatAll K H' vs ds
  | _, _, .nil => .nil
  | _, _, .cons a b => .cons (Dat.up e a) (DatAll.up e b)
theorem DatKv.up {K : PySem.W.Frag} {H H' : Hp} (e : ∀ p o, H p = some o → H' p = some o) : ∀ {vs : List (Key × V)} {ds : List (PyData × PyData)}, DatKv K H vs ds → DatKv K H' vs ds
  | _, _, .nil => .nil
  | _, _, .cons a b => .cons (Dat.up e a) (DatKv.up e b)
end
theorem DatAll.snoc {K : PySem.W.Frag} {H : Hp} {v : V} {d : PyData} (h : Dat K H v d) : ∀ {vs : List V} {ds : List PyData}, DatAll K H vs ds → DatAll K H (vs ++ [v]) (ds ++ [d])
  | _, _, .nil => .cons h .nil
  | _, _, .cons a b => .cons a (DatAll.snoc h b)
end Vd

/-! D0: data beside the heap: values are data, lists that a def has made itself are owned, one bag may change -/
namespace Pd
open PySem PySem.Spec PyProof.Rows L2 Vd
open Classical
/-! ### the bag -/
def But (b : Addr) (H H' : Hp) : Prop := (∀ p o, p ≠ b → H p = some o → H' p = some o) ∧
  ∀ (x y z : Int) (c : Addr), H b = some (.lst [.int x, .int y, .int z, .ref c]) → ∃ x' y' z' : Int, H' b = some (.lst [.int x', .int y', .int z', .ref c])
def BagAt (H : Hp) (b : Addr) : Prop := ∃ (x y z : Int) (c : Addr) (ns : List Int), H b = some (.lst [.int x, .int y, .int z, .ref c]) ∧ H c = some (.lst (ns.map V.int)) ∧ ns.length ≤ 63
theorem But.refl (b : Addr) (H : Hp) : But b H H := ⟨fun _ _ _ e => e, fun x y z _ e => ⟨x, y, z, e⟩⟩
theorem But.trans {b : Addr} {H H1 H2 : Hp} (x : But b H H1) (y : But b H1 H2) : But b H H2 := ⟨fun p o n e => y.1 p o n (x.1 p o n e), fun i j k c e => by
  obtain ⟨i', j', k', e'⟩ := x.2 i j k c e
  exact y.2 _ _ _ _ e'⟩
theorem But.of {b : Addr} {H H1 : Hp} (x : Same H H1) : But b H H1 := ⟨fun p o _ e => x p o e, fun i j k c e => ⟨i, j, k, x _ _ e⟩⟩
theorem bag_apart {H : Hp} {b c : Addr} {x y z : Int} {ns : List Int} (e1 : H b = some (.lst [.int x, .int y, .int z, .ref c])) (e2 : H c = some (.lst (ns.map V.int))) : c ≠ b := fun q => by
  rw [q, e1] at e2
  injection e2 with e2
  injection e2 with e2
  match ns, e2 with
  | [_, _, _, _], e2 => simp at e2
  | [], e2 => simp at e2
  | [_], e2 => simp at e2
  | [_, _], e2 => simp at e2
  | [_, _, _], e2 => simp at e2
  | _ :: _ :: _ :: _ :: _ :: _, e2 => simp at e2
theorem BagAt.but {H G : Hp} {b : Addr} (h : BagAt H b) (s : But b H G) : BagAt G b := by
  obtain ⟨x, y, z, c, ns, e1, e2, e3⟩ := h
  obtain ⟨x', y', z', e⟩ := s.2 _ _ _ _ e1
  exact ⟨x', y', z', c, ns, e, s.1 _ _ (bag_apart e1 e2) e2, e3⟩
/-- all stays, but the bag, where there is one -/
def Bu (β : Option Addr) (H H' : Hp) : Prop := match β with | none => Same H H' | some b => But b H H'
def BagO (β : Option Addr) (H : Hp) : Prop := ∀ b, β = some b → BagAt H b
theorem Bu.refl (β : Option Addr) (H : Hp) : Bu β H H := by
  cases β with
  | none => exact Same.refl H
  | some b => exact But.refl b H
theorem Bu.trans {β : Option Addr} {H H1 H2 : Hp} (x : Bu β H H1) (y : Bu β H1 H2) : Bu β H H2 := by
  cases β with
  | none => exact Same.trans x y
  | some b => exact But.trans x y
theorem Bu.of {β : Option Addr} {H H1 : Hp} (x : Same H H1) : Bu β H H1 := by
  cases β with
  | none => exact x
  | some b => exact But.of x
theorem Bu.at {β : Option Addr} {H H1 : Hp} (x : Bu β H H1) {p : Addr} {o : HO} (n : β ≠ some p) (e : H p = some o) : H1 p = some o := by
  cases β with
  | none => exact x p o e
  | some b => exact x.1 p o (fun z => n (by rw [z])) e
theorem BagO.bu {β : Option Addr} {H H1 : Hp} (h : BagO β H) (x : Bu β H H1) : BagO β H1 := fun b e => by
  subst e
  exact (h b rfl).but x
theorem BagO.ne {β : Option Addr} {H : Hp} (h : BagO β H) {p : Addr} (n : H p = none) : β ≠ some p := fun e => by
  obtain ⟨_, _, _, _, _, z, _⟩ := h p e
  rw [n] at z
  cases z
theorem Bu.back {β : Option Addr} {H H1 : Hp} (x : Bu β H H1) (h : BagO β H) {p : Addr} (n : H1 p = none) : H p = none := by
  have ne := (h.bu x).ne n
  cases e : H p with
  | none => rfl
  | some o =>
    rw [x.at ne e] at n
    cases n
theorem same_new {H : Hp} {p : Addr} {o : HO} (h : H p = none) : Same H (upd H p o) := fun b x e => by
  rw [upd_ne (ne_of_none e h)]
  exact e
theorem len_line {n : Nat} (h : n ≤ 1000000) : n ≤ sizeLine := Nat.le_trans h (by decide)

/-! ### regions -/
noncomputable def res (ok : Addr → Prop) (H : Hp) : Hp := fun p => if ok p then H p else none
theorem res_at {ok : Addr → Prop} {H : Hp} {p : Addr} {o : HO} : res ok H p = some o ↔ ok p ∧ H p = some o := by
  unfold res
  by_cases h : ok p
  · rw [if_pos h]
    exact ⟨fun e => ⟨h, e⟩, fun e => e.2⟩
  · rw [if_neg h]
    exact ⟨(fun e => by cases e), fun e => absurd e.1 h⟩
theorem res_up {ok ok' : Addr → Prop} {H H' : Hp} (h : ∀ p o, ok p → H p = some o → ok' p ∧ H' p = some o) : ∀ p o, res ok H p = some o → res ok' H' p = some o := fun p o e => by
  obtain ⟨a, b⟩ := res_at.mp e
  exact res_at.mpr (h p o a b)
theorem res_sub {ok : Addr → Prop} {H : Hp} : ∀ p o, res ok H p = some o → H p = some o := fun p o e => (res_at.mp e).2

/-! ### pure data: no list and no dict within -/
mutual
def pure_ : PyData → Bool
  | .list _ => false
  | .dict _ => false
  | .tuple xs => pures xs
  | _ => true
def pures : List PyData → Bool
  | [] => true
  | x :: xs => pure_ x && pures xs
end
def Tup (o : HO) : Prop := (∃ xs, o = .tup xs) ∨ ∃ u xs, o = .frz u (.tup xs)
section
variable {K : PySem.W.Frag} {F F' : Hp}
theorem sqt_up {a : Addr} {xs : List V} (s : ∀ p o, F p = some o → Tup o → F' p = some o) (h : SqT K F a xs) : SqT K F' a xs := by
  rcases h with (h | ⟨o, h⟩) | h
  · exact .inl (.inl (s _ _ h (.inl ⟨_, rfl⟩)))
  · exact .inl (.inr ⟨o, s _ _ h (.inr ⟨_, _, rfl⟩)⟩)
  · exact .inr h
theorem sqt_sub {a : Addr} {xs : List V} (s : ∀ p o, F p = some o → F' p = some o) (h : SqT K F a xs) : SqT K F' a xs := sqt_up (fun p o e _ => s p o e) h
theorem sql_sub {a : Addr} {xs : List V} (s : ∀ p o, F p = some o → F' p = some o) (h : SqL K F a xs) : SqL K F' a xs := by
  rcases h with (h | ⟨o, h⟩) | h
  · exact .inl (.inl (s _ _ h))
  · exact .inl (.inr ⟨o, s _ _ h⟩)
  · exact .inr h
mutual
theorem pure_up (s : ∀ p o, F p = some o → Tup o → F' p = some o) : ∀ {d : PyData} {v : V}, pure_ d = true → Dat K F v d → Dat K F' v d
  | .none, _, _, h => by cases h; exact .non
  | .bool b, _, _, h => by cases h; exact .bl b
  | .int i, _, _, h => by cases h; exact .int i
  | .str x, _, _, h => by cases h; exact .str x
  | .list _, _, no, _ => by cases no
  | .dict _, _, no, _ => by cases no
  | .tuple ds, _, p, h => by
    cases h with
    | tup a b => exact .tup (sqt_up s a) (pures_up s (by simpa [pure_] using p) b)
theorem pures_up (s : ∀ p o, F p = some o → Tup o → F' p = some o) : ∀ {ds : List PyData} {vs : List V}, pures ds = true → DatAll K F vs ds → DatAll K F' vs ds
  | [], _, _, h => by cases h; exact .nil
  | d :: ds, _, p, h => by
    cases h with
    | cons a b =>
      simp only [pures, Bool.and_eq_true] at p
      exact .cons (pure_up s p.1 a) (pures_up s p.2 b)
end
end

/-! ### values, slots -/
inductive Fl where | fr | gd | ow | wk
  deriving DecidableEq
/-- a value as data: fresh, good or weak; or the bag -/
inductive Dv where | d (x : PyData) (f : Fl) | bag
/-- a slot: empty, data, a list or dict of one's own, the bag -/
inductive Sl where | un | dat (x : PyData) | own (x : PyData) | bag
abbrev Ro := List Sl
abbrev DK := Dv → Prop
abbrev DE := Ro → DK → Prop
abbrev DA := Ro → (List Dv → Prop) → Prop
abbrev DT := Ro → (Bool → Prop) → Prop
structure Wd where
  β : Option Addr
  H0 : Hp
  R : Addr → Prop
  hide : Addr → Prop
def okw (W : Wd) (p : Addr) : Prop := (W.R p ∨ W.H0 p = none) ∧ ¬ W.hide p ∧ W.β ≠ some p
def IsOwn (ρ : Ro) (σ : L2.St) (p : Addr) : Prop := ∃ (i : Nat) (x : PyData), ρ[i]? = some (Sl.own x) ∧ σ[i]? = some (some (V.ref p))
def okg (W : Wd) (ρ : Ro) (σ : L2.St) (p : Addr) : Prop := okw W p ∧ ¬ IsOwn ρ σ p
/-- a list or a dict at p, its parts within F -/
def Cell (K : PySem.W.Frag) (F H : Hp) (p : Addr) : PyData → Prop
  | .list ds => ∃ vs, H p = some (.lst vs) ∧ DatAll K F vs ds
  | .dict kvs => ∃ kv, H p = some (.dK kv) ∧ DatKv K F kv kvs
  | _ => False
def SlR (K : PySem.W.Frag) (W : Wd) (F H : Hp) (v : Option V) : Sl → Prop
  | .un => True
  | .bag => ∃ b, W.β = some b ∧ v = some (.ref b)
  | .dat x => ∃ u, v = some u ∧ Dat K F u x
  | .own x => ∃ p, v = some (.ref p) ∧ okw W p ∧ W.H0 p = none ∧ Cell K F H p x
structure Sim (K : PySem.W.Frag) (W : Wd) (ρ : Ro) (σ : L2.St) (H : Hp) : Prop where
  len : σ.length = ρ.length
  bu : Bu W.β W.H0 H
  bag : BagO W.β W.H0
  at_ : ∀ (i : Nat) (s : Sl), ρ[i]? = some s → SlR K W (res (okg W ρ σ) H) H (σ[i]?.getD none) s
  hid : ∀ p, W.hide p → W.β ≠ some p ∧ ∃ o, H p = some o
  apart : ∀ (i j : Nat) (x y : PyData) (p : Addr), i ≠ j → ρ[i]? = some (Sl.own x) → ρ[j]? = some (Sl.own y) → σ[i]? = some (some (V.ref p)) → σ[j]? ≠ some (some (V.ref p))
/-- a value at the end of an expression begun at H -/
def ER (K : PySem.W.Frag) (W : Wd) (ρ : Ro) (σ : L2.St) (H H' : Hp) (v : V) : Dv → Prop
  | .bag => ∃ b, W.β = some b ∧ v = .ref b
  | .d x .wk => Dat K (res (okw W) H') v x
  | .d x .gd => Dat K (res (okg W ρ σ) H') v x
  | .d x .fr => ∃ p, v = .ref p ∧ H p = none ∧ Cell K (res (fun q => okg W ρ σ q ∧ q ≠ p) H') H' p x
  | .d x .ow => ∃ p, v = .ref p ∧ okw W p ∧ Cell K (res (okg W ρ σ) H') H' p x
def Fl.good : Fl → Bool
  | .fr => true
  | .gd => true
  | _ => false
def Fl.parts : Fl → Bool
  | .wk => false
  | _ => true
/-- a fresh cell at p -/
def frAt (r : Dv) (v : V) (p : Addr) : Prop := match r with
  | .d _ .fr => v = .ref p
  | _ => False
inductive ERs (K : PySem.W.Frag) (W : Wd) (ρ : Ro) (σ : L2.St) (H H' : Hp) : List V → List Dv → Prop
  | nil : ERs K W ρ σ H H' [] []
  | cons {v : V} {vs : List V} {r : Dv} {rs : List Dv} : ER K W ρ σ H H' v r → (∀ (p : Addr) (i : Nat) (r' : Dv) (v' : V), frAt r v p → rs[i]? = some r' → vs[i]? = some v' → frAt r' v' p → False) → ERs K W ρ σ H H' vs rs → ERs K W ρ σ H H' (v :: vs) (r :: rs)

section
variable {K : PySem.W.Frag} {W : Wd} {ρ : Ro} {σ : L2.St} {H H1 H2 : Hp} {v : V}
theorem Sim.now (S : Sim K W ρ σ H) : BagO W.β H := S.bag.bu S.bu
theorem Sim.new (S : Sim K W ρ σ H) {p : Addr} (n : H p = none) : W.H0 p = none ∧ W.β ≠ some p ∧ ¬ IsOwn ρ σ p := by
  refine ⟨S.bu.back S.bag n, S.now.ne n, ?_⟩
  rintro ⟨i, x, e1, e2⟩
  have := S.at_ i _ e1
  rw [e2] at this
  obtain ⟨q, e3, _, _, c⟩ := this
  injection e3 with e3
  injection e3 with e3
  subst e3
  cases x with
  | list ds => obtain ⟨vs, e, _⟩ := c; rw [n] at e; cases e
  | dict ds => obtain ⟨vs, e, _⟩ := c; rw [n] at e; cases e
  | _ => exact c
theorem Sim.nohide (S : Sim K W ρ σ H) {p : Addr} (n : H p = none) : ¬ W.hide p := fun h => by
  obtain ⟨_, o, e⟩ := S.hid p h
  rw [n] at e
  cases e
theorem Sim.okg_new (S : Sim K W ρ σ H) {p : Addr} (n : H p = none) : okg W ρ σ p := ⟨⟨.inr (S.new n).1, S.nohide n, (S.new n).2.1⟩, (S.new n).2.2⟩
theorem okg_ne (h : okw W p) : W.β ≠ some p := h.2.2
theorem resg_up (x : Bu W.β H1 H2) : ∀ p o, res (okg W ρ σ) H1 p = some o → res (okg W ρ σ) H2 p = some o := res_up fun p o a b => ⟨a, x.at a.1.2.2 b⟩
theorem resw_up (x : Bu W.β H1 H2) : ∀ p o, res (okw W) H1 p = some o → res (okw W) H2 p = some o := res_up fun p o a b => ⟨a, x.at a.2.2 b⟩
theorem resg_w : ∀ p o, res (okg W ρ σ) H p = some o → res (okw W) H p = some o := res_up fun p o a b => ⟨a.1, b⟩
theorem resgp_up {q : Addr} (x : Bu W.β H1 H2) : ∀ p o, res (fun p => okg W ρ σ p ∧ p ≠ q) H1 p = some o → res (fun p => okg W ρ σ p ∧ p ≠ q) H2 p = some o := res_up fun p o a b => ⟨a, x.at a.1.1.2.2 b⟩
theorem resgp_g {q : Addr} : ∀ p o, res (fun p => okg W ρ σ p ∧ p ≠ q) H p = some o → res (okg W ρ σ) H p = some o := res_up fun p o a b => ⟨a.1, b⟩
theorem Cell.up {F F' G G' : Hp} {p : Addr} {x : PyData} (s : ∀ p o, F p = some o → F' p = some o) (g : ∀ o, G p = some o → G' p = some o) (h : Cell K F G p x) : Cell K F' G' p x := by
  cases x with
  | list ds => obtain ⟨vs, e, d⟩ := h; exact ⟨vs, g _ e, DatAll.up s d⟩
  | dict ds => obtain ⟨vs, e, d⟩ := h; exact ⟨vs, g _ e, DatKv.up s d⟩
  | _ => exact h
theorem Cell.has {F G : Hp} {p : Addr} {x : PyData} (h : Cell K F G p x) : ∃ o, G p = some o ∧ ¬ Tup o := by
  cases x with
  | list ds => obtain ⟨vs, e, d⟩ := h; exact ⟨_, e, by rintro (⟨_, z⟩ | ⟨_, _, z⟩) <;> cases z⟩
  | dict ds => obtain ⟨vs, e, d⟩ := h; exact ⟨_, e, by rintro (⟨_, z⟩ | ⟨_, _, z⟩) <;> cases z⟩
  | _ => exact h.elim
theorem Cell.dat {F G : Hp} {p : Addr} {x : PyData} (h : Cell K F G p x) (g : ∀ o, G p = some o → F p = some o) : Dat K F (.ref p) x := by
  cases x with
  | list ds => obtain ⟨vs, e, d⟩ := h; exact .lst (SqL.of (g _ e)) d
  | dict ds => obtain ⟨vs, e, d⟩ := h; exact .dic (g _ e) d
  | _ => exact h.elim
/-- time goes on -/
theorem Sim.step (S : Sim K W ρ σ H) (x : Bu W.β H H1) : Sim K W ρ σ H1 := by
  refine ⟨S.len, S.bu.trans x, S.bag, fun i s e => ?_, fun p h => ⟨(S.hid p h).1, let ⟨_, o, e⟩ := S.hid p h; ⟨o, x.at (S.hid p h).1 e⟩⟩, S.apart⟩
  have := S.at_ i s e
  cases s with
  | un => exact this
  | bag => exact this
  | dat d => obtain ⟨u, e1, e2⟩ := this; exact ⟨u, e1, Dat.up (resg_up x) e2⟩
  | own d => obtain ⟨p, e1, e2, e3, e4⟩ := this; exact ⟨p, e1, e2, e3, e4.up (resg_up x) fun o e => x.at e2.2.2 e⟩
theorem ER.step {r : Dv} (x : Bu W.β H1 H2) (bag : BagO W.β H) (S : Bu W.β H H1) (h : ER K W ρ σ H H1 v r) : ER K W ρ σ H H2 v r := by
  cases r with
  | bag => exact h
  | d d f =>
    cases f with
    | wk => exact Dat.up (resw_up x) h
    | gd => exact Dat.up (resg_up x) h
    | fr =>
      obtain ⟨p, e1, e2, e4⟩ := h
      exact ⟨p, e1, e2, e4.up (resgp_up x) fun o e => x.at (bag.ne e2) e⟩
    | ow =>
      obtain ⟨p, e1, e2, e4⟩ := h
      exact ⟨p, e1, e2, e4.up (resg_up x) fun o e => x.at e2.2.2 e⟩
theorem ER.back {r : Dv} (x : Bu W.β H H1) (bag : BagO W.β H) (h : ER K W ρ σ H1 H2 v r) : ER K W ρ σ H H2 v r := by
  cases r with
  | bag => exact h
  | d d f =>
    cases f with
    | wk => exact h
    | gd => exact h
    | fr =>
      obtain ⟨p, e1, e2, e4⟩ := h
      exact ⟨p, e1, x.back bag e2, e4⟩
    | ow => exact h
theorem ERs.step {rs : List Dv} {vs : List V} (x : Bu W.β H1 H2) (bag : BagO W.β H) (S : Bu W.β H H1) (h : ERs K W ρ σ H H1 vs rs) : ERs K W ρ σ H H2 vs rs := by
  induction h with
  | nil => exact .nil
  | cons a ap _ ih => exact .cons (a.step x bag S) ap ih
theorem ERs.back {rs : List Dv} {vs : List V} (x : Bu W.β H H1) (bag : BagO W.β H) (h : ERs K W ρ σ H1 H2 vs rs) : ERs K W ρ σ H H2 vs rs := by
  induction h with
  | nil => exact .nil
  | cons a ap _ ih => exact .cons (a.back x bag) ap ih
/-- whatever it is, it is this data now -/
theorem ER.wk {x : PyData} {f : Fl} (S : Sim K W ρ σ H) (s : Bu W.β H H1) (h : ER K W ρ σ H H1 v (.d x f)) : Dat K (res (okw W) H1) v x := by
  cases f with
  | wk => exact h
  | gd => exact Dat.up resg_w h
  | fr =>
    obtain ⟨p, rfl, e2, e4⟩ := h
    have ok := S.okg_new e2
    refine Cell.dat (e4.up (fun q o e => resg_w q o (resgp_g q o e)) fun o e => e) fun o e => res_at.mpr ⟨ok.1, e⟩
  | ow =>
    obtain ⟨p, rfl, e2, e4⟩ := h
    exact Cell.dat (e4.up resg_w fun o e => e) fun o e => res_at.mpr ⟨e2, e⟩
theorem tup_g (S : Sim K W ρ σ H) (s : Bu W.β H H1) : ∀ q o, res (okw W) H1 q = some o → Tup o → res (okg W ρ σ) H1 q = some o := fun q o e t => by
  obtain ⟨a, b⟩ := res_at.mp e
  refine res_at.mpr ⟨⟨a, ?_⟩, b⟩
  rintro ⟨i, y, e1, e2⟩
  have := (S.step s).at_ i _ e1
  rw [e2] at this
  obtain ⟨q', e3, _, _, c⟩ := this
  injection e3 with e3
  injection e3 with e3
  subst e3
  obtain ⟨o', e4, no⟩ := c.has
  rw [b] at e4
  injection e4 with e4
  exact no (e4 ▸ t)
theorem pure_g {x : PyData} (S : Sim K W ρ σ H) (s : Bu W.β H H1) (p : pure_ x = true) (h : Dat K (res (okw W) H1) v x) : Dat K (res (okg W ρ σ) H1) v x := pure_up (tup_g S s) p h
theorem pures_g {xs : List PyData} {vs : List V} (S : Sim K W ρ σ H) (s : Bu W.β H H1) (p : pures xs = true) (h : DatAll K (res (okw W) H1) vs xs) : DatAll K (res (okg W ρ σ) H1) vs xs := pures_up (tup_g S s) p h
theorem ER.gd {x : PyData} {f : Fl} (S : Sim K W ρ σ H) (s : Bu W.β H H1) (h : ER K W ρ σ H H1 v (.d x f)) (ok : (f.good || pure_ x) = true) : Dat K (res (okg W ρ σ) H1) v x := by
  cases f with
  | gd => exact h
  | fr =>
    obtain ⟨p, rfl, e2, e4⟩ := h
    have ok := S.okg_new e2
    exact Cell.dat (e4.up resgp_g fun o e => e) fun o e => res_at.mpr ⟨ok, e⟩
  | wk => exact pure_g S s (by simpa [Fl.good] using ok) h
  | ow => exact pure_g S s (by simpa [Fl.good] using ok) (ER.wk S s h)
theorem ER.lst {ds : List PyData} {f : Fl} (S : Sim K W ρ σ H) (s : Bu W.β H H1) (h : ER K W ρ σ H H1 v (.d (.list ds) f)) :
    ∃ p xs, v = .ref p ∧ SqL K H1 p xs ∧ DatAll K (res (okw W) H1) xs ds ∧ ((f.parts || pures ds) = true → DatAll K (res (okg W ρ σ) H1) xs ds) := by
  cases f with
  | wk =>
    cases h with
    | @lst p xs _ sq all => exact ⟨p, xs, rfl, sql_sub res_sub sq, all, fun pu => pures_g S s (by simpa [Fl.parts] using pu) all⟩
  | gd =>
    cases h with
    | @lst p xs _ sq all => exact ⟨p, xs, rfl, sql_sub res_sub sq, DatAll.up resg_w all, fun _ => all⟩
  | fr =>
    obtain ⟨p', e1, e2, vs, e4, all2⟩ := h
    have g := DatAll.up resgp_g all2
    exact ⟨p', vs, e1, SqL.of e4, DatAll.up resg_w g, fun _ => g⟩
  | ow =>
    obtain ⟨p', e1, e2, vs, e4, all2⟩ := h
    exact ⟨p', vs, e1, SqL.of e4, DatAll.up resg_w all2, fun _ => all2⟩
theorem ER.tup {ds : List PyData} {f : Fl} (S : Sim K W ρ σ H) (s : Bu W.β H H1) (h : ER K W ρ σ H H1 v (.d (.tuple ds) f)) :
    ∃ p xs, v = .ref p ∧ SqT K H1 p xs ∧ DatAll K (res (okw W) H1) xs ds ∧ ((f.parts || pures ds) = true → DatAll K (res (okg W ρ σ) H1) xs ds) := by
  cases f with
  | wk =>
    cases h with
    | @tup p xs _ sq all => exact ⟨p, xs, rfl, sqt_sub res_sub sq, all, fun pu => pures_g S s (by simpa [Fl.parts] using pu) all⟩
  | gd =>
    cases h with
    | @tup p xs _ sq all => exact ⟨p, xs, rfl, sqt_sub res_sub sq, DatAll.up resg_w all, fun _ => all⟩
  | fr => obtain ⟨p', e1, e2, no⟩ := h; exact no.elim
  | ow => obtain ⟨p', e1, e2, no⟩ := h; exact no.elim
end
end Pd

namespace Vd
open PySem PySem.Spec PyProof.Rows L2
section
open AutoSeq1 MeetsSeq MeetsSeq2 MeetsSeq3 SeqRoads2
variable {prog : Program} {w : World}
theorem eqDiff (l b : Addr) (xs ys : Array Value) (n m : Nat) (d1 d2 : Option Addr) (s1 s2 : Array (Option Value)) (ne : (xs.size != ys.size) = true) :
    MeetsIn prog w (Builtin.«list.__eq__» ⟨[.ref l, .ref b], []⟩)
      (fun A R s => s.heap.get? l = some { cls := .type "list", dict := d1, data := .seq xs n, slots := s1 } ∧ s.heap.get? b = some { cls := .type "list", dict := d2, data := .seq ys m, slots := s2 } ∧ R (.ok (.ret (.bool false))) s) := by
  refine MeetsIn.of_wp fun A R s h => ?_
  obtain ⟨hp, g, d, tk, os⟩ := s
  obtain ⟨hl, hb, h⟩ := h
  have both := AutoSeq1.sub_list_list
  wp_walk using wpAny_loadPart' hl, wpAny_loadPart' hb
  exact ⟨_, rfl, h⟩
theorem rcDiff {A : Around} {s : Shared} {l b : Addr} {xs ys : Array Value} (hl : s.heap.IsList l xs) (hb : s.heap.IsList b ys) (ne : (xs.size != ys.size) = true) (room : A.units < cLine) (E Q : Value → Shared → Prop) (h : Q (.bool false) s) :
    wpAny (model prog w) A (richCompare .Eq (.ref l) (.ref b)) Q E s := by
  obtain ⟨⟨_, d1, _, s1⟩, o1, rfl, n, rfl⟩ := id hl
  obtain ⟨⟨_, d2, _, s2⟩, o2, rfl, m, rfl⟩ := id hb
  have t1 : s.TypeIs (.ref l) "list" := ⟨_, o1, rfl⟩
  refine wpAny_richCompare_same_room (op := .Eq) t1 ⟨_, o2, rfl⟩ F.slot_list_eq ?_ room
  exact call_meetsIn F.slot_list_eq t1 F.entry_list_eq (F.args_list_eq_2 _ _) (eqDiff l b xs ys n m d1 d2 s1 s2 ne) ⟨o1, o2, (show Value.bool false ≠ Value.notImplemented ∧ Q (.bool false) s from ⟨fun no => (nomatch no), h⟩)⟩
end
section
variable {X : Cx}
/-- == and != of any two shaped data -/
theorem op_eqG (room : X.A.units + 64 < cLine) : OpR X (compareOp .Eq) (fun x y H Q => ∃ d e, Dat X.K H x d ∧ Dat X.K H y e ∧ SeqAt.shaped d = true ∧ SeqAt.shaped e = true ∧ Q (.bl (PyData.eqv d e)) H) := by
  rintro pins s σ H x y u v Q I rx ry ⟨d, e, h1, h2, s1, s2, q⟩
  obtain ⟨as, r1⟩ := (Dat.rds I d x u h1 rx).reads
  obtain ⟨bs, r2⟩ := (Dat.rds I e y v h2 ry).reads
  exact SeqAt.compareEq_shaped r1 r2 s1 s2 room ⟨.bl _, H, I, rfl, q⟩
theorem op_neG (room : X.A.units + 64 < cLine) : OpR X (compareOp .NotEq) (fun x y H Q => ∃ d e, Dat X.K H x d ∧ Dat X.K H y e ∧ SeqAt.shaped d = true ∧ SeqAt.shaped e = true ∧ Q (.bl (!PyData.eqv d e)) H) := by
  rintro pins s σ H x y u v Q I rx ry ⟨d, e, h1, h2, s1, s2, q⟩
  obtain ⟨as, r1⟩ := (Dat.rds I d x u h1 rx).reads
  obtain ⟨bs, r2⟩ := (Dat.rds I e y v h2 ry).reads
  exact SeqAt.compareNe_shaped r1 r2 s1 s2 room ⟨.bl _, H, I, rfl, q⟩
/-- xs == [] -/
theorem op_eqNil (room : X.A.units + 64 < cLine) : OpR X (compareOp .Eq) (fun x y H Q => ∃ a b xs, x = .ref a ∧ y = .ref b ∧ SqL X.K H a xs ∧ SqL X.K H b [] ∧ Q (.bl xs.isEmpty) H) := by
  rintro pins s σ H x y u v Q I rx ry ⟨a, b, xs, rfl, rfl, h1, h2, q⟩
  cases xs with
  | nil => exact op_eqG room pins s σ H _ _ u v Q I rx ry ⟨.list [], .list [], .lst h1 .nil, .lst h2 .nil, by decide +kernel, by decide +kernel, by
      have e : PyData.eqv (.list []) (.list []) = true := by decide +kernel
      rw [e]
      exact q⟩
  | cons z zs =>
    cases rx
    cases ry
    obtain ⟨its, r1, p1, f1⟩ := I.list h1
    obtain ⟨its2, r2, p2, f2⟩ := I.list h2
    cases r2
    cases r1 with
    | cons r11 r12 =>
      exact rcDiff p1.isList p2.isList (by simp) (by omega) _ _ ⟨.bl false, H, I, rfl, q⟩
end
end Vd

namespace Vd
open PySem PySem.Spec PyProof.Rows L2
theorem same_put {G : Hp} {p : Addr} {o : HO} (n : G p = none) : Same G (upd G p o) := fun b x e => by
  rw [upd_ne (ne_of_none e n)]
  exact e
/-! ### a tuple times 0, 1 -/
theorem tuple_mul1 (l : Addr) (items : Array Value) (n : Nat) (dd : Option Addr) (sl : Array (Option Value)) (u : Tok) :
    Meets (Builtin.«tuple.__mul__» ⟨[.ref l, .int 1 u], []⟩) (fun _ R s => s.heap.get? l = some { cls := .type "tuple", dict := dd, data := .seq items n, slots := sl } ∧ R (.ok (.ret (Value.ref l))) s) :=
  .of_wp fun prog w A R s h => by
    obtain ⟨hp, g, d, tk, os⟩ := s
    obtain ⟨hl, h⟩ := h
    have f1 := AutoSeq1.idx_int
    have c1 : (items.isEmpty || (1 : Int) == 1) = true := by simp
    wp_walk using wpAny_loadPart' hl
    repeat (first
      | (refine wpAny_ite_true (by simp) ?_; wp_walk using wpAny_loadPart' hl)
      | (refine wpAny_ite_false (by decide) ?_; wp_walk using wpAny_loadPart' hl))
    exact ⟨_, rfl, h⟩
theorem tuple_mul0 (l : Addr) (items : Array Value) (n : Nat) (dd : Option Addr) (sl : Array (Option Value)) (u : Tok) (ne : items.isEmpty = false) :
    Meets (Builtin.«tuple.__mul__» ⟨[.ref l, .int 0 u], []⟩) (fun _ R s => s.heap.get? l = some { cls := .type "tuple", dict := dd, data := .seq items n, slots := sl } ∧
      R (.ok (.ret (Value.ref s.heap.objs.size))) { s with heap := s.heap.push { cls := Value.type "tuple", data := Data.seq #[] }, toks := s.toks }) :=
  .of_wp fun prog w A R s h => by
    obtain ⟨hp, g, d, tk, os⟩ := s
    obtain ⟨hl, h⟩ := h
    have f1 := AutoSeq1.idx_int
    wp_walk using wpAny_loadPart' hl
    repeat (first
      | (refine wpAny_ite_false (by rw [ne]; decide) ?_; wp_walk using wpAny_loadPart' hl)
      | (refine wpAny_ite_true (by simp) ?_; wp_walk using wpAny_loadPart' hl)
      | (refine wpAny_ite_false (by decide) ?_; wp_walk using wpAny_loadPart' hl))
    exact ⟨_, rfl, h⟩
section
variable {X : Cx}
/-- t * 0, t * 1, t * 2 .. -/
def rRepS (K : PySem.W.Frag) : R2 := fun x y H Q => ∃ (l : Addr) (k : Nat) (xs : List V), x = .ref l ∧ y = .int k ∧ SqT K H l xs ∧ xs ≠ [] ∧ k ≤ 1000 ∧ xs.length ≤ 1000 ∧
  ((k = 1 ∧ Q (.ref l) H) ∨ (k ≠ 1 ∧ ∀ p, H p = none → Q (.ref p) (upd H p (.tup (List.replicate k xs).flatten))))
theorem op_repS : OpR X (binaryOp .Mult) (rRepS X.K) := by
  intro pins s σ H x y v u Q I rx ry h
  obtain ⟨l, k, xs, rfl, rfl, hT, hne, h1, hz, q⟩ := h
  match k, h1, q, ry with
  | 0, _, q, ry =>
    have q : (0 : Nat) ≠ 1 ∧ _ := q.resolve_left fun z => nomatch z.1
    cases rx
    obtain ⟨t, rfl⟩ := ry
    obtain ⟨its, r, ⟨⟨cls, dd, data, sl⟩, ho, hc, n, hd⟩, hs⟩ := I.tuple hT
    simp only at hc hd
    subst hc hd
    have hi : its.toArray.isEmpty = false := by
      cases its with
      | nil =>
        cases r
        exact absurd rfl hne
      | cons a b => rfl
    refine wpAny_binaryOp_repeat_ref (T := "tuple") (U := "int") (by decide) ⟨_, ho, rfl⟩ (fun s' => typeIs_int s' _ t) noFill_tuple_mul F.fills_int_mul F.slot_int_rmul repeat_tuple F.slot_int_index.lookup
      (call_meets F.slot_int_rmul (typeIs_int s _ t) F.entry_int_rmul (F.args_int_rmul_2 _ _) (int_rmul_tuple _ t l its.toArray n dd sl)
        ⟨ho, rfl, ⟨_, ho, rfl⟩, call_meets F.slot_tuple_mul ⟨_, ho, rfl⟩ F.entry_tuple_mul (F.args_tuple_mul_2 _ _) (tuple_mul0 l its.toArray n dd sl t hi) ⟨ho, ?_⟩⟩)
    refine ⟨.ref s.heap.objs.size, _, I.laid (t' := s.toks) (o := .tup []) (fun b ob q => Heap.get?_push_of_some _ q) (Nat.le_refl _) ?_, rfl, q.2 _ (I.hok.fresh (Nat.le_refl _))⟩
    exact ⟨Nat.zero_le _, _, .nil, IsTup.new _ _⟩
  | 1, _, q, ry =>
    cases rx
    obtain ⟨t, rfl⟩ := ry
    obtain ⟨its, r, ⟨⟨cls, dd, data, sl⟩, ho, hc, n, hd⟩, hs⟩ := I.tuple hT
    simp only at hc hd
    subst hc hd
    refine wpAny_binaryOp_repeat_ref (T := "tuple") (U := "int") (by decide) ⟨_, ho, rfl⟩ (fun s' => typeIs_int s' _ t) noFill_tuple_mul F.fills_int_mul F.slot_int_rmul repeat_tuple F.slot_int_index.lookup
      (call_meets F.slot_int_rmul (typeIs_int s _ t) F.entry_int_rmul (F.args_int_rmul_2 _ _) (int_rmul_tuple _ t l its.toArray n dd sl)
        ⟨ho, rfl, ⟨_, ho, rfl⟩, call_meets F.slot_tuple_mul ⟨_, ho, rfl⟩ F.entry_tuple_mul (F.args_tuple_mul_2 _ _) (tuple_mul1 l its.toArray n dd sl t) ⟨ho, ?_⟩⟩)
    exact ⟨.ref l, H, I, rfl, (q.resolve_right fun z => z.1 rfl).2⟩
  | k + 2, h1, q, ry =>
    refine op_repT pins s σ H _ _ v u Q I rx ry ⟨l, _, xs, rfl, rfl, hT, hne, by omega, by omega, hz, fun p np => ?_⟩
    have e : ((((k + 2 : Nat) : Int)).toNat) = k + 2 := Int.toNat_natCast _
    rw [e]
    exact (q.resolve_left fun z => by omega).2 p np
end
end Vd

namespace Vd
open PySem PySem.Spec PyProof.Rows L2 HT
/-! ### a tuple == () -/
section
open AutoSeq1 MeetsSeq MeetsSeq2 MeetsSeq3 SeqRoads2
variable {prog : Program} {w : World}
theorem eqTup0 (l b : Addr) (xs : Array Value) (n m : Nat) (d1 d2 : Option Addr) (s1 s2 : Array (Option Value)) :
    MeetsIn prog w (Builtin.«tuple.__eq__» ⟨[.ref l, .ref b], []⟩)
      (fun A R s => s.heap.get? l = some { cls := .type "tuple", dict := d1, data := .seq xs n, slots := s1 } ∧ s.heap.get? b = some { cls := .type "tuple", dict := d2, data := .seq #[] m, slots := s2 } ∧ R (.ok (.ret (.bool (xs.size == 0)))) s) := by
  refine MeetsIn.of_wp fun A R s h => ?_
  obtain ⟨hp, g, d, tk, os⟩ := s
  obtain ⟨hl, hb, h⟩ := h
  have both := AutoSeq1.sub_tuple_tuple
  wp_walk using wpAny_loadPart' hl, wpAny_loadPart' hb, wpAny_forIn_list _ (fun rest b s' => rest = [] ∧ b.1 = none ∧ s' = ⟨hp, g, d, tk, os⟩) _
  case turn =>
    rintro ⟨y, x⟩ rest b s' ⟨no, _, _⟩
    cases no
  case fin =>
    rintro ⟨b1, b2⟩ s' ⟨_, none1, rfl⟩
    simp only at none1
    subst none1
    wp_walk
    refine ⟨_, rfl, ?_⟩
    simpa [Builtin.Tuple.tupleCompareSizes] using h
  case h => exact ⟨by simp, rfl, rfl⟩
theorem rcTup0 {A : Around} {s : Shared} {l b : Addr} {xs : Array Value} (hl : s.heap.IsTuple l xs) (hb : s.heap.IsTuple b #[]) (room : A.units < cLine) (E Q : Value → Shared → Prop) (h : Q (.bool (xs.size == 0)) s) :
    wpAny (model prog w) A (richCompare .Eq (.ref l) (.ref b)) Q E s := by
  obtain ⟨⟨_, d1, _, s1⟩, o1, rfl, n, rfl⟩ := id hl
  obtain ⟨⟨_, d2, _, s2⟩, o2, rfl, m, rfl⟩ := id hb
  have t1 : s.TypeIs (.ref l) "tuple" := ⟨_, o1, rfl⟩
  refine wpAny_richCompare_same_room (op := .Eq) t1 ⟨_, o2, rfl⟩ F.slot_tuple_eq ?_ room
  exact call_meetsIn F.slot_tuple_eq t1 F.entry_tuple_eq (F.args_tuple_eq_2 _ _) (eqTup0 l b xs n m d1 d2 s1 s2) ⟨o1, o2, (show Value.bool (xs.size == 0) ≠ Value.notImplemented ∧ Q (.bool (xs.size == 0)) s from ⟨fun no => (nomatch no), h⟩)⟩
end
section
variable {X : Cx}
/-- t == () -/
theorem op_eqNilT (room : X.A.units + 64 < cLine) : OpR X (compareOp .Eq) (fun x y H Q => ∃ a b xs, x = .ref a ∧ y = .ref b ∧ SqT X.K H a xs ∧ SqT X.K H b [] ∧ Q (.bl xs.isEmpty) H) := by
  rintro pins s σ H x y u v Q I rx ry ⟨a, b, xs, rfl, rfl, h1, h2, q⟩
  cases rx
  cases ry
  obtain ⟨its, r1, ⟨o1, e1, c1, n1, d1⟩, _⟩ := I.tuple h1
  obtain ⟨its2, r2, ⟨o2, e2, c2, n2, d2⟩, _⟩ := I.tuple h2
  cases r2
  refine rcTup0 ⟨o1, e1, c1, n1, d1⟩ ⟨o2, e2, c2, n2, d2⟩ (by omega) _ _ ⟨.bl xs.isEmpty, H, I, ?_, q⟩
  have len := r1.length
  cases xs with
  | nil => cases r1; rfl
  | cons z zs =>
    cases r1
    rfl
/-- s * 2 -/
theorem op_strTwice : OpR X (binaryOp .Mult) (fun x y H Q => ∃ z : Str, x = .str z ∧ y = .int 2 ∧ 2 * z.length ≤ 1000000 ∧ ∀ z2 : Str, z2.cps.toList = z.cps.toList ++ z.cps.toList → Q (.str z2) H) := by
  rintro pins s σ H x y u v Q I rx ry ⟨z, rfl, rfl, few, q⟩
  obtain ⟨t1, rfl⟩ := rx
  obtain ⟨t2, rfl⟩ := ry
  have big := sizeLine_eq
  refine PySem.P.mul_str (by decide) (fun _ _ => ?_) (fun _ _ => ?_) ?_
  · have e : ((2 : Int) ^ 63 - 1) / 2 = 4611686018427387903 := by decide
    rw [e]
    omega
  · unfold PySem.Builtin.Str.tooLong
    have e : ((2 : Int).toNat) = 2 := rfl
    rw [e]
    simp
    omega
  · rw [if_neg (by decide)]
    by_cases e : z.length = 0
    · have c : ((2 : Int) == 1 || z.length == 0) = true := by simp [e]
      rw [if_pos c]
      refine ⟨.str z, H, I, ⟨t1, rfl⟩, q z ?_⟩
      have : z.cps.toList = [] := List.eq_nil_of_length_eq_zero (by simpa [Str.length] using e)
      rw [this]
      rfl
    · have c : ((2 : Int) == 1 || z.length == 0) = false := by simp [e]
      rw [if_neg (by rw [c]; decide)]
      refine ⟨?_, ⟨.str _, H, I.kept (t' := s.toks + 1) fun _ _ e => e, ⟨_, rfl⟩, q _ ?_⟩⟩
      · show _ ≤ sizeLine
        simp [Str.length, List.replicate] at few ⊢
        omega
      · show (List.foldl (fun x1 x2 => x1 ++ x2) #[] (List.replicate 2 z.cps)).toList = _
        simp [List.replicate]
end
/-! ### t[::-1] -/
section
variable {prog : Program} {w : World} {A : Around} {E : Value → Shared → Prop} {s : Shared}
theorem rev_pick (items : Array Value) : ((List.range items.size).filterMap fun (k : Nat) => items[(((items.size : Int) - 1) + (k : Int) * (-1)).toNat]?) = items.toList.reverse := by
  have e : ∀ k ∈ List.range items.size, (((items.size : Int) - 1) + (k : Int) * (-1)).toNat = items.size - 1 - k := fun k m => by
    have := List.mem_range.mp m
    omega
  have e2 : ((List.range items.size).filterMap fun (k : Nat) => items[(((items.size : Int) - 1) + (k : Int) * (-1)).toNat]?) = ((List.range items.size).map fun k => items.size - 1 - k).filterMap (items[·]?) := by
    rw [List.filterMap_map]
    generalize List.range items.size = l at e
    induction l with
    | nil => rfl
    | cons a l ih =>
      rw [List.filterMap_cons, List.filterMap_cons, ih fun k m => e k (.tail _ m), e a (.head _)]
      rfl
  rw [e2, PySem.W.krv_range, List.filterMap_reverse, PySem.W.krv_all]
theorem getItem_tuple_rev {t sl : Addr} {items : Array Value} {vl vu vs : Value} {Q : Value → Shared → Prop} (ht : IsTup s.heap t items) (hs : s.heap.IsSliceOf sl vl vu vs) (pl : IsPart vl none) (pu : IsPart vu none) (ps : IsPart vs (some (-1)))
    (h : Q (.ref s.heap.objs.size) { s with heap := s.heap.push { cls := .type "tuple", data := .seq items.toList.reverse.toArray } })
    (hsz : items.size ≤ sizeLine) : wpAny (model prog w) A (getItem (.ref t) (.ref sl)) Q E s := by
  have htake : sizeOk (.seq items.toList.reverse.toArray) := by
    show items.toList.reverse.toArray.size ≤ sizeLine
    simpa using hsz
  obtain ⟨os, hos, hcs, hds⟩ := id hs
  have hTs : s.TypeIs (.ref sl) "slice" := ⟨os, hos, hcs⟩
  unfold getItem
  try with_reducible refine wpAny_holding ?_
  first | refine wpAny_bind (wpAny_pure ?_) | skip
  refine wpAny_bind (wpAny_sequenceKey ht.typeIs (by decide) ?_)
  refine wpAny_bind (wpAny_callSpecial?_slot (name := Str.ofString "__getitem__") ht.typeIs PyProof.Rows.slot_tuple_getitem
    (wpAny_call_entry PyProof.Rows.slot_tuple_getitem ht.typeIs entry_tuple_getitem ?_ (args_tuple_getitem _ _)))
  show wpAny _ _ (Builtin.Tuple.tupleItemsOf (.ref t) >>= _) _ _ s
  refine wpAny_bind (tupleItemsOf_ ht ?_)
  refine wpAny_bind (wpAny_typeOf hTs ?_)
  rw [if_pos (by decide)]
  have app : ∀ Q' : Int × Int × Nat → Shared → Prop, Q' ((items.size : Int) - 1, -1, items.size) s → wpAny (model prog w) A.in1 (Builtin.Slice.sliceApplied (.ref sl) (pure (items.size : Int))) Q' E s := fun Q' q => by
    unfold Builtin.Slice.sliceApplied Builtin.Slice.sliceFields
    refine wpAny_bind (wpAny_bind (wpAny_field hos hds (x := vl) rfl (wpAny_bind (wpAny_field hos hds (x := vu) rfl (wpAny_bind (wpAny_field hos hds (x := vs) rfl (wpAny_pure ?_)))))))
    refine wpAny_bind (HT.slicePart_ ps ?_)
    show wpAny _ _ (if ((-1 : Int) == 0) = true then _ else _) _ _ s
    rw [if_neg (by decide)]
    refine wpAny_bind (HT.slicePart_ pl (wpAny_bind (HT.slicePart_ pu (wpAny_bind (wpAny_pure ?_)))))
    show wpAny _ _ (match Builtin.Slice.sliceAdjust none none (-1) (items.size : Int) with | (lo, hi) => pure (lo, (-1 : Int), Builtin.Slice.slicePlaces lo hi (-1))) _ _ s
    have e1 : Builtin.Slice.sliceAdjust none none (-1) (items.size : Int) = ((items.size : Int) - 1, -1) := by
      simp [Builtin.Slice.sliceAdjust]
    rw [e1]
    have e2 : Builtin.Slice.slicePlaces ((items.size : Int) - 1) (-1) (-1) = items.size := by
      unfold Builtin.Slice.slicePlaces
      rw [if_neg (by decide)]
      by_cases z : items.size = 0
      · rw [z]
        rfl
      · rw [if_pos (by omega)]
        show ((((items.size : Int) - 1 - -1 - 1) / 1) + 1).toNat = items.size
        rw [Int.ediv_one]
        omega
    show wpAny _ _ (pure ((items.size : Int) - 1, (-1 : Int), Builtin.Slice.slicePlaces ((items.size : Int) - 1) (-1) (-1))) _ _ s
    rw [e2]
    exact wpAny_pure q
  refine wpAny_bind (app _ ?_)
  show wpAny _ _ (if (((items.size : Int) - 1) == 0 && (-1 : Int) == 1 && items.size == items.size) = true then _ else _) _ _ s
  have hno : ¬ ((((items.size : Int) - 1) == 0 && (-1 : Int) == 1 && items.size == items.size) = true) := by
    simp
  rw [if_neg hno, rev_pick]
  first
    | exact wpAny_bind (m := Builtin.Tuple.tupleExact _) (wpAny_newObj_type (wpAny_pure ⟨_, rfl, wpAny_pure h⟩) htake)
    | exact wpAny_bind (m := Builtin.Tuple.tupleExact _) (wpAny_newObj_type (wpAny_bind (wpAny_pure (wpAny_pure ⟨_, rfl, wpAny_pure h⟩))) htake)
    | exact wpAny_bind (wpAny_bind (m := Builtin.Tuple.tupleExact _) (wpAny_newObj_type (wpAny_pure (wpAny_pure ⟨_, rfl, wpAny_pure h⟩)) htake))
    | exact wpAny_bind (wpAny_bind (m := Builtin.Tuple.tupleExact _) (wpAny_newObj_type (wpAny_pure ⟨_, rfl, wpAny_pure h⟩) htake))
end
section
variable {X : Cx}
def tRevT (K : PySem.W.Frag) (te : TE) : TE := fun σ H Q => te σ H fun x H1 => ∃ a xs, x = .ref a ∧ SqT K H1 a xs ∧ ∀ p, H1 p = none → Q (.ref p) (upd H1 p (.tup xs.reverse))
theorem pe_revT {e : Expr} {te : TE} {k : Nat} {p1 p2 p3 pos : Pos} (he : PE X e te) : PE X (.Subscript e (.Slice none none (some (.UnaryOp .USub (.Constant (.int 1) k p1) p2)) p3) pos) (tRevT X.K te) := by
  refine ⟨fun pins s σ H Q I h => ?_⟩
  refine Subscript_ (thn (he.run pins s σ H _ I h) fun v s1 ⟨x, H1, I1, r1, q1⟩ => ?_)
  obtain ⟨a, xs, ex, hx, q⟩ := q1
  subst ex
  cases r1
  have hst : PO X (some (.UnaryOp .USub (.Constant (.int 1) k p1) p2)) (tPart (tUn (rU fun i => .int (-i)) (tC (.int 1)))) := po_some (pe_un un_neg pe_int)
  refine wpAny_Slice (thn (po_none.run pins s1 σ H1 (fun o H2 => o = none ∧ H2 = H1) I1 ⟨rfl, rfl⟩) fun vl s2 ⟨l, H2, I2, pl, el, e2⟩ => ?_)
  subst el e2
  refine thn (po_none.run pins s2 σ H2 (fun o H3 => o = none ∧ H3 = H2) I2 ⟨rfl, rfl⟩) fun vu s3 ⟨u, H3, I3, pu, eu, e3⟩ => ?_
  subst eu e3
  refine thn (hst.run pins s3 σ H3 (fun o H4 => o = some (-1) ∧ H4 = H3) I3 ⟨1, rfl, -1, rfl, rfl, rfl⟩) fun vs s4 ⟨o, H4, I4, ps, eo, e4⟩ => ?_
  subst eo e4
  have I5 : Inv X pins σ H4 { s4 with heap := s4.heap.push { cls := .type "slice", data := .fields #[vl, vu, vs] } } := I4.kept (t' := s4.toks) fun b ob q => Heap.get?_push_of_some _ q
  obtain ⟨its, r, ht, hz⟩ := I5.tuple hx
  have hlen := r.length
  show wpAny (model X.prog X.w) X.A (subscriptTail e (.Slice none none (some (.UnaryOp .USub (.Constant (.int 1) k p1) p2)) p3) (.ref a) (.ref s4.heap.objs.size)) (EP X pins σ Q) X.xe { s4 with heap := s4.heap.push { cls := .type "slice", data := .fields #[vl, vu, vs] } }
  refine tail_any (ops := [.ref a, .ref s4.heap.objs.size]) ht.typeIs (PyProof.Rows.slot_tuple_getitem.lookup) ?_ (by with_unfolding_all rfl)
  refine getItem_tuple_rev ht (Heap.IsSliceOf.new _ vl vu vs) pl pu ps ?_ (by rw [List.size_toArray]; omega)
  refine ⟨.ref _, _, I5.laid (t' := s4.toks) (o := .tup xs.reverse) (fun b ob q => Heap.get?_push_of_some _ q) (Nat.le_refl _) ?_, rfl, q _ (I5.hok.fresh (Nat.le_refl _))⟩
  exact ⟨by rw [List.length_reverse]; exact hz, _, r.reverse, IsTup.new _ _⟩
end
end Vd

/-! D1: expressions by data -/
namespace Pd
open PySem PySem.Spec PyProof.Rows L2 Vd
open Classical
structure Snd (K : PySem.W.Frag) (te : TE) (w : DE) : Prop where
  go : ∀ (W : Wd) (ρ : Ro) (σ : L2.St) (H : Hp) (P : DK) (Q : VK), Sim K W ρ σ H → w ρ P → (∀ r v H1, Bu W.β H H1 → ER K W ρ σ H H1 v r → P r → Q v H1) → te σ H Q
structure SndA (K : PySem.W.Frag) (ta : TA) (w : DA) : Prop where
  go : ∀ (W : Wd) (ρ : Ro) (σ : L2.St) (H : Hp) (P : List Dv → Prop) (Q : List V → Hp → Prop), Sim K W ρ σ H → w ρ P → (∀ rs vs H1, Bu W.β H H1 → ERs K W ρ σ H H1 vs rs → P rs → Q vs H1) → ta σ H Q
structure SndT (K : PySem.W.Frag) (tt : TT) (w : DT) : Prop where
  go : ∀ (W : Wd) (ρ : Ro) (σ : L2.St) (H : Hp) (P : Bool → Prop) (Q : Bool → Hp → Prop), Sim K W ρ σ H → w ρ P → (∀ b H1, Bu W.β H H1 → P b → Q b H1) → tt σ H Q
structure PD (X : Cx) (e : Expr) (te : TE) (w : DE) : Prop where
  pe : PE X e te
  snd : Snd X.K te w
structure PDA (X : Cx) (es : List Expr) (ta : TA) (w : DA) : Prop where
  pa : PA X es ta
  snd : SndA X.K ta w
structure PDT (X : Cx) (e : Expr) (tt : TT) (w : DT) : Prop where
  pt : PT X e tt
  snd : SndT X.K tt w
structure PDW (X : Cx) (e : Expr) (tt : TT) (w : DT) : Prop where
  pw : PW X e tt
  snd : SndT X.K tt w
def onD (r : Dv) (k : PyData → Fl → Prop) : Prop := match r with
  | .d x f => k x f
  | .bag => False
def boD (r : Dv) (k : Bool → Prop) : Prop := match r with
  | .d (.bool b) _ => k b
  | _ => False
def goodR : Dv → Bool
  | .d x f => f.good || pure_ x
  | .bag => false
def goods : List Dv → Bool
  | [] => true
  | r :: rs => goodR r && goods rs
def datas : List Dv → Option (List PyData)
  | [] => some []
  | .d x _ :: rs => (datas rs).map (x :: ·)
  | .bag :: _ => none
def onAll (rs : List Dv) (k : List PyData → Prop) : Prop := match datas rs with
  | some xs => k xs
  | none => False
def flIf (b : Bool) (f : Fl) : Fl := match b with
  | true => f
  | false => .wk
def atom (x : PyData) : Dv := .d x .gd
section
variable {K : PySem.W.Frag} {W : Wd} {ρ : Ro} {σ : L2.St} {H H1 H2 : Hp} {v : V}
theorem ERs.len {rs : List Dv} {vs : List V} (h : ERs K W ρ σ H H1 vs rs) : vs.length = rs.length := by
  induction h with
  | nil => rfl
  | cons _ _ _ ih => rw [List.length_cons, List.length_cons, ih]
theorem ERs.wk {rs : List Dv} {vs : List V} {xs : List PyData} (S : Sim K W ρ σ H) (s : Bu W.β H H1) (h : ERs K W ρ σ H H1 vs rs) (e : datas rs = some xs) : DatAll K (res (okw W) H1) vs xs := by
  induction h generalizing xs with
  | nil => cases e; exact .nil
  | @cons v vs r rs a _ _ ih =>
    cases r with
    | bag => cases e
    | d x f =>
      simp only [datas, Option.map_eq_some_iff] at e
      obtain ⟨ys, e1, rfl⟩ := e
      exact .cons (ER.wk S s a) (ih e1)
theorem ERs.gd {rs : List Dv} {vs : List V} {xs : List PyData} (S : Sim K W ρ σ H) (s : Bu W.β H H1) (h : ERs K W ρ σ H H1 vs rs) (g : goods rs = true) (e : datas rs = some xs) : DatAll K (res (okg W ρ σ) H1) vs xs := by
  induction h generalizing xs with
  | nil => cases e; exact .nil
  | @cons v vs r rs a _ _ ih =>
    cases r with
    | bag => cases e
    | d x f =>
      simp only [datas, Option.map_eq_some_iff] at e
      obtain ⟨ys, e1, rfl⟩ := e
      simp only [goods, Bool.and_eq_true] at g
      exact .cons (ER.gd S s a g.1) (ih g.2 e1)
theorem datas_len : ∀ {rs : List Dv} {xs : List PyData}, datas rs = some xs → xs.length = rs.length
  | [], _, e => by cases e; rfl
  | .d x _ :: rs, _, e => by
    simp only [datas, Option.map_eq_some_iff] at e
    obtain ⟨ys, e1, rfl⟩ := e
    rw [List.length_cons, List.length_cons, datas_len e1]
  | .bag :: _, _, e => by cases e
/-- flat values -/
def flatX : PyData → Bool
  | .none => true
  | .bool _ => true
  | .int _ => true
  | .str _ => true
  | _ => false
def flatV_ : PyData → V
  | .none => .non
  | .bool b => .bl b
  | .int i => .int i
  | .str x => .str x
  | _ => .non
theorem flat_dat {F : Hp} {x : PyData} (h : flatX x = true) : Dat K F (flatV_ x) x := by
  cases x with
  | none => exact .non
  | bool b => exact .bl b
  | int i => exact .int i
  | str x => exact .str x
  | _ => cases h
theorem dat_flat {F : Hp} {x : PyData} (h : flatX x = true) (d : Dat K F v x) : v = flatV_ x := by
  cases x with
  | none => cases d; rfl
  | bool b => cases d; rfl
  | int i => cases d; rfl
  | str x => cases d; rfl
  | _ => cases h
theorem er_atom {x : PyData} (h : flatX x = true) : ER K W ρ σ H H1 (flatV_ x) (atom x) := flat_dat h
theorem ER.flat {x : PyData} {f : Fl} (S : Sim K W ρ σ H) (s : Bu W.β H H1) (h : flatX x = true) (d : ER K W ρ σ H H1 v (.d x f)) : v = flatV_ x := dat_flat h (ER.wk S s d)
theorem er_int {i : Int} : ER K W ρ σ H H1 (.int i) (atom (.int i)) := .int i
theorem er_str {i : Str} : ER K W ρ σ H H1 (.str i) (atom (.str i)) := .str i
theorem er_bl {i : Bool} : ER K W ρ σ H H1 (.bl i) (atom (.bool i)) := .bl i
/-- a new tuple -/
theorem er_tup {b : Bool} {p : Addr} {vs : List V} {xs : List PyData} (S : Sim K W ρ σ H) (s : Bu W.β H H1) (n : H1 p = none) (all : DatAll K (res (okw W) H1) vs xs) (g : b = true → DatAll K (res (okg W ρ σ) H1) vs xs) :
    ER K W ρ σ H (upd H1 p (.tup vs)) (.ref p) (.d (.tuple xs) (flIf b .gd)) := by
  have S1 := S.step s
  have ok := S1.okg_new n
  have s1 : Same H1 (upd H1 p (.tup vs)) := same_new n
  cases b with
  | true => exact Dat.tup (.inl (.inl (res_at.mpr ⟨ok, upd_same⟩))) (DatAll.up (resg_up (Bu.of s1)) (g rfl))
  | false => exact Dat.tup (.inl (.inl (res_at.mpr ⟨ok.1, upd_same⟩))) (DatAll.up (resw_up (Bu.of s1)) all)
/-- a new list -/
theorem er_lst {b : Bool} {p : Addr} {vs : List V} {xs : List PyData} (S : Sim K W ρ σ H) (s : Bu W.β H H1) (n : H1 p = none) (all : DatAll K (res (okw W) H1) vs xs) (g : b = true → DatAll K (res (okg W ρ σ) H1) vs xs) :
    ER K W ρ σ H (upd H1 p (.lst vs)) (.ref p) (.d (.list xs) (flIf b .fr)) := by
  have S1 := S.step s
  have ok := S1.okg_new n
  have s1 : Same H1 (upd H1 p (.lst vs)) := same_new n
  cases b with
  | true =>
    refine ⟨p, rfl, s.back S.now n, vs, upd_same, DatAll.up (fun q o e => ?_) (g rfl)⟩
    obtain ⟨a, e1⟩ := res_at.mp e
    exact res_at.mpr ⟨⟨a, ne_of_none e1 n⟩, s1 _ _ e1⟩
  | false => exact Dat.lst (SqL.of (res_at.mpr ⟨ok.1, upd_same⟩)) (DatAll.up (resw_up (Bu.of s1)) all)
end
end Pd

/-! D2: expressions: names, displays, operations -/
namespace Pd
open PySem PySem.Spec PyProof.Rows L2 Vd
open Classical
section
variable {X : Cx} {e a b c : Expr} {es : List Expr} {pos : Pos} {te ta tb tc : TE} {tA : TA} {u1 u2 : TT}
/-! ### names, constants -/
def dVar (i : Nat) : DE := fun ρ P => match ρ[i]? with
  | some (.dat x) => P (.d x .gd)
  | some (.own x) => P (.d x .ow)
  | some .bag => P .bag
  | _ => False
theorem snd_var {K : PySem.W.Frag} {i : Nat} : Snd K (tVar i) (dVar i) := ⟨fun W ρ σ H P Q S h q => by
  unfold dVar at h
  cases e : ρ[i]? with
  | none => rw [e] at h; exact h.elim
  | some s =>
    rw [e] at h
    have lt : i < σ.length := by
      rw [S.len]
      exact (List.getElem?_eq_some_iff.mp e).1
    have at_i := S.at_ i s e
    have e2 : ∀ u, σ[i]?.getD none = some u → σ[i]? = some (some u) := fun u z => by
      rw [List.getElem?_eq_getElem lt] at z ⊢
      simpa using z
    cases s with
    | un => exact h.elim
    | dat x =>
      obtain ⟨u, e1, d⟩ := at_i
      exact ⟨u, e2 u e1, q (.d x .gd) u H (Bu.refl _ _) d h⟩
    | own x =>
      obtain ⟨p, e1, o1, o2, c⟩ := at_i
      exact ⟨_, e2 _ e1, q (.d x .ow) _ H (Bu.refl _ _) ⟨p, rfl, o1, c⟩ h⟩
    | bag =>
      obtain ⟨b, e1, e3⟩ := at_i
      exact ⟨_, e2 _ e3, q .bag _ H (Bu.refl _ _) ⟨b, e1, rfl⟩ h⟩⟩
theorem pd_var (i : Nat) {x : Str} (h : PE X (.Name x pos) (tVar i)) : PD X (.Name x pos) (tVar i) (dVar i) := ⟨h, snd_var⟩
def dC (x : PyData) : DE := fun _ P => P (atom x)
theorem snd_c {K : PySem.W.Frag} {x : PyData} (h : flatX x = true) : Snd K (tC (flatV_ x)) (dC x) := ⟨fun W ρ σ H P Q S h' q => q _ _ H (Bu.refl _ _) (er_atom h) h'⟩
theorem pd_int {i j pos} : PD X (.Constant (.int i) j pos) (tC (.int i)) (dC (.int i)) := ⟨pe_int, snd_c (x := .int i) rfl⟩
theorem pd_bl {i j pos} : PD X (.Constant (.bool i) j pos) (tC (.bl i)) (dC (.bool i)) := ⟨pe_bl, snd_c (x := .bool i) rfl⟩
theorem pd_str {i j pos} : PD X (.Constant (.str i) j pos) (tC (.str i)) (dC (.str i)) := ⟨pe_str, snd_c (x := .str i) rfl⟩
theorem pd_non {j pos} : PD X (.Constant .none j pos) (tC .non) (dC .none) := ⟨pe_non, snd_c (x := .none) rfl⟩
/-! ### lists of expressions -/
def dNil : DA := fun _ P => P []
def dCons (w : DE) (wr : DA) : DA := fun ρ P => w ρ fun r => wr ρ fun rs => P (r :: rs)
theorem snda_nil {K : PySem.W.Frag} : SndA K tNil dNil := ⟨fun W ρ σ H P Q S h q => q _ _ H (Bu.refl _ _) .nil h⟩
theorem ers_at {K : PySem.W.Frag} {W : Wd} {ρ : Ro} {σ : L2.St} {H H1 : Hp} {vs : List V} {rs : List Dv} (h : ERs K W ρ σ H H1 vs rs) : ∀ (i : Nat) (r : Dv) (v : V), rs[i]? = some r → vs[i]? = some v → ER K W ρ σ H H1 v r := by
  induction h with
  | nil => intro i r v e; simp at e
  | @cons v vs r rs a _ _ ih =>
    intro i r' v' e1 e2
    cases i with
    | zero => simp at e1 e2; subst e1 e2; exact a
    | succ i => exact ih i r' v' (by simpa using e1) (by simpa using e2)
theorem fr_apart {K : PySem.W.Frag} {W : Wd} {ρ : Ro} {σ : L2.St} {H H1 H2 : Hp} {v v' : V} {r r' : Dv} {vs : List V} {rs : List Dv} {p : Addr} {i : Nat} (e1 : ER K W ρ σ H H1 v r) (e2 : ERs K W ρ σ H1 H2 vs rs) (f1 : frAt r v p) (q1 : rs[i]? = some r') (q2 : vs[i]? = some v') (f2 : frAt r' v' p) : False := by
  have e := ers_at e2 i r' v' q1 q2
  cases r with
  | bag => exact f1
  | d x f =>
    cases f with
    | fr =>
      cases r' with
      | bag => exact f2
      | d y g =>
        cases g with
        | fr =>
          obtain ⟨a, h1, _, c⟩ := e1
          obtain ⟨b, h2, n, _⟩ := e
          have z1 : v = .ref p := f1
          have z2 : v' = .ref p := f2
          rw [z1] at h1
          rw [z2] at h2
          cases h1
          cases h2
          obtain ⟨o, z, _⟩ := c.has
          rw [n] at z
          cases z
        | _ => exact f2
    | _ => exact f1
theorem snda_cons {K : PySem.W.Frag} {te : TE} {ta : TA} {w : DE} {wr : DA} (h1 : Snd K te w) (h2 : SndA K ta wr) : SndA K (tCons te ta) (dCons w wr) := ⟨fun W ρ σ H P Q S h q =>
  h1.go W ρ σ H _ _ S h fun r v H1 s1 e1 p1 => h2.go W ρ σ H1 _ _ (S.step s1) p1 fun rs vs H2 s2 e2 p2 =>
    q _ _ H2 (s1.trans s2) (.cons (e1.step s2 S.now s1) (fun p i r' v' f1 q1 q2 f2 => fr_apart e1 e2 f1 q1 q2 f2) (e2.back s1 S.now)) p2⟩
theorem pda_nil  : PDA X [] tNil dNil := ⟨pa_nil, snda_nil⟩
theorem pda_cons {w : DE} {wr : DA} (h1 : PD X e te w) (h2 : PDA X es tA wr) (hs : starEach (e :: es) X.env = (false, eval e X.env) :: starEach es X.env := by rfl) : PDA X (e :: es) (tCons te tA) (dCons w wr) := by
  obtain ⟨a1, b1⟩ := h1
  obtain ⟨a2, b2⟩ := h2
  exact ⟨pa_cons a1 a2 hs, snda_cons b1 b2⟩
/-! ### displays -/
def mkTup (rs : List Dv) (P : DK) : Prop := onAll rs fun xs => rs.length ≤ 1000000 ∧ P (.d (.tuple xs) (flIf (goods rs) .gd))
def mkLst (rs : List Dv) (P : DK) : Prop := onAll rs fun xs => rs.length ≤ 1000000 ∧ P (.d (.list xs) (flIf (goods rs) .fr))
def dTup (wa : DA) : DE := fun ρ P => wa ρ fun rs => mkTup rs P
def dLst (wa : DA) : DE := fun ρ P => wa ρ fun rs => mkLst rs P
theorem snd_tup {K : PySem.W.Frag} {ta : TA} {wa : DA} (h : SndA K ta wa) : Snd K (tTup ta) (dTup wa) := ⟨fun W ρ σ H P Q S hw q => by
  refine h.go W ρ σ H _ _ S hw fun rs vs H1 s1 e1 p1 => ?_
  unfold mkTup onAll at p1
  cases ed : datas rs with
  | none => rw [ed] at p1; exact p1.elim
  | some xs =>
    rw [ed] at p1
    obtain ⟨few, p1⟩ := p1
    refine ⟨len_line (by rw [e1.len]; exact few), fun p np => ?_⟩
    exact q _ _ _ (s1.trans (Bu.of (same_new np))) (er_tup S s1 np (e1.wk S s1 ed) fun g => e1.gd S s1 g ed) p1⟩
theorem snd_lst {K : PySem.W.Frag} {ta : TA} {wa : DA} (h : SndA K ta wa) : Snd K (tLst ta) (dLst wa) := ⟨fun W ρ σ H P Q S hw q => by
  refine h.go W ρ σ H _ _ S hw fun rs vs H1 s1 e1 p1 => ?_
  unfold mkLst onAll at p1
  cases ed : datas rs with
  | none => rw [ed] at p1; exact p1.elim
  | some xs =>
    rw [ed] at p1
    obtain ⟨few, p1⟩ := p1
    refine ⟨len_line (by rw [e1.len]; exact few), fun p np => ?_⟩
    exact q _ _ _ (s1.trans (Bu.of (same_new np))) (er_lst S s1 np (e1.wk S s1 ed) fun g => e1.gd S s1 g ed) p1⟩
theorem pd_tup {wa : DA} {x1} (h : PDA X es tA wa) : PD X (.Tuple es x1 pos) (tTup tA) (dTup wa) := by
  obtain ⟨a1, b1⟩ := h
  exact ⟨pe_tup a1, snd_tup b1⟩
theorem pd_lst {wa : DA} (h : PDA X es tA wa) : PD X (.List es pos) (tLst tA) (dLst wa) := by
  obtain ⟨a1, b1⟩ := h
  exact ⟨pe_lst a1, snd_lst b1⟩
/-! ### operations of two values -/
abbrev W2 := PyData → Fl → PyData → Fl → DK → Prop
structure OpS (K : PySem.W.Frag) (r : R2) (w : W2) : Prop where
  go : ∀ (W : Wd) (ρ : Ro) (σ : L2.St) (H H1 : Hp) (x y : V) (dx dy : PyData) (fx fy : Fl) (P : DK) (Q : VK), Sim K W ρ σ H → Bu W.β H H1 → ER K W ρ σ H H1 x (.d dx fx) → ER K W ρ σ H H1 y (.d dy fy) →
    w dx fx dy fy P → (∀ r v H2, Bu W.β H1 H2 → ER K W ρ σ H H2 v r → P r → Q v H2) → r x y H1 Q
def Op2 (X : Cx) (f : Value → Value → Sem Value) (r : R2) (w : W2) : Prop := OpR X f r ∧ OpS X.K r w
def dOp (wo : W2) (wa wb : DE) : DE := fun ρ P => wa ρ fun r1 => onD r1 fun x f => wb ρ fun r2 => onD r2 fun y g => wo x f y g P
theorem snd_op {K : PySem.W.Frag} {r : R2} {ta tb : TE} {wo : W2} {wa wb : DE} (o : OpS K r wo) (h1 : Snd K ta wa) (h2 : Snd K tb wb) : Snd K (tOp r ta tb) (dOp wo wa wb) := ⟨fun W ρ σ H P Q S h q => by
  refine h1.go W ρ σ H _ _ S h fun r1 v1 H1 s1 e1 p1 => ?_
  cases r1 with
  | bag => exact p1.elim
  | d x f =>
    refine h2.go W ρ σ H1 _ _ (S.step s1) p1 fun r2 v2 H2 s2 e2 p2 => ?_
    cases r2 with
    | bag => exact p2.elim
    | d y g => exact o.go W ρ σ H H2 v1 v2 x y f g P Q S (s1.trans s2) (e1.step s2 S.now s1) (e2.back s1 S.now) p2 fun r v H3 s3 e3 p3 => q r v H3 ((s1.trans s2).trans s3) e3 p3⟩
theorem pd_op {op : Operator} {r : R2} {wo : W2} {wa wb : DE} (o : Op2 X (binaryOp op) r wo) (h1 : PD X a ta wa) (h2 : PD X b tb wb) : PD X (.BinOp a op b pos) (tOp r ta tb) (dOp wo wa wb) := by
  obtain ⟨o1, o2⟩ := o
  obtain ⟨a1, b1⟩ := h1
  obtain ⟨a2, b2⟩ := h2
  exact ⟨pe_op o1 a1 a2, snd_op o2 b1 b2⟩
theorem pd_cmp {op : CmpOp} {r : R2} {wo : W2} {wa wb : DE} (o : Op2 X (compareOp op) r wo) (h1 : PD X a ta wa) (h2 : PD X b tb wb) (hm : behindInMarks op b = false) : PD X (.Compare a [op] [b] pos) (tOp r ta tb) (dOp wo wa wb) := by
  obtain ⟨o1, o2⟩ := o
  obtain ⟨a1, b1⟩ := h1
  obtain ⟨a2, b2⟩ := h2
  exact ⟨pe_cmpR o1 a1 a2 hm, snd_op o2 b1 b2⟩
/-- a value as a test -/
def dTest (w : DE) : DT := fun ρ P => w ρ fun r => boD r P
theorem boD_is {K : PySem.W.Frag} {W : Wd} {ρ : Ro} {σ : L2.St} {H H1 : Hp} {v : V} {r : Dv} {k : Bool → Prop} (S : Sim K W ρ σ H) (s : Bu W.β H H1) (e : ER K W ρ σ H H1 v r) (h : boD r k) : ∃ b, v = .bl b ∧ k b := by
  cases r with
  | bag => exact h.elim
  | d x f =>
    cases x with
    | bool b => exact ⟨b, ER.flat S s rfl e, h⟩
    | _ => exact h.elim
theorem pdt_cmp {op : CmpOp} {r : R2} {wo : W2} {wa wb : DE} (o : Op2 X (compareOp op) r wo) (h1 : PD X a ta wa) (h2 : PD X b tb wb) (hm : behindInMarks op b = false) : PDT X (.Compare a [op] [b] pos) (tTest (tOp r ta tb)) (dTest (dOp wo wa wb)) := by
  obtain ⟨o1, o2⟩ := o
  obtain ⟨a1, b1⟩ := h1
  obtain ⟨a2, b2⟩ := h2
  refine ⟨pt_cmpR o1 a1 a2 hm, ⟨fun W ρ σ H P Q S h q => ?_⟩⟩
  refine (snd_op o2 b1 b2).go W ρ σ H _ _ S h fun r v H1 s1 e1 p1 => ?_
  obtain ⟨b, rfl, p⟩ := boD_is S s1 e1 p1
  exact ⟨b, rfl, q b H1 s1 p⟩
/-- truth of any value -/
def wTru (x : PyData) (P : Bool → Prop) : Prop := match x with
  | .none => P false
  | .bool b => P b
  | .int i => P (i != 0)
  | .str y => y.length ≤ 1000000 ∧ P ((y.length : Int) != 0)
  | .list xs => P (!xs.isEmpty)
  | .tuple xs => P (!xs.isEmpty)
  | .dict xs => P (!xs.isEmpty)
def dTru (w : DE) : DT := fun ρ P => w ρ fun r => onD r fun x _ => wTru x P
theorem dats_len {K : PySem.W.Frag} {F : Hp} {vs : List V} {ds : List PyData} (h : DatAll K F vs ds) : vs.length = ds.length := by
  induction vs generalizing ds with
  | nil => cases h; rfl
  | cons v vs ih =>
    cases h with
    | cons a b => rw [List.length_cons, List.length_cons, ih b]
theorem dats_empty {K : PySem.W.Frag} {F : Hp} {vs : List V} {ds : List PyData} (h : DatAll K F vs ds) : vs.isEmpty = ds.isEmpty := by
  cases h <;> rfl
theorem datkv_empty {K : PySem.W.Frag} {F : Hp} {vs : List (Key × V)} {ds : List (PyData × PyData)} (h : DatKv K F vs ds) : vs.isEmpty = ds.isEmpty := by
  cases h <;> rfl
theorem pdt_tru {w : DE} (h : PD X a ta w) (he : ∀ whole, isTrue a X.env whole = (do let v ← whole; standAt a.pos; holding [v] (truthy v)) := by intro _; rfl) : PDT X a (fun σ H Q => ta σ H fun x H1 => ∃ k, TruV X.K x H1 k ∧ Q k H1) (dTru w) := by
  obtain ⟨a1, b1⟩ := h
  refine ⟨pt_truth a1 he, ⟨fun W ρ σ H P Q S hw q => ?_⟩⟩
  refine b1.go W ρ σ H _ _ S hw fun r v H1 s1 e1 p1 => ?_
  cases r with
  | bag => exact p1.elim
  | d x f =>
    have d := ER.wk S s1 e1
    cases x with
    | none => cases d; exact ⟨false, rfl, q _ H1 s1 p1⟩
    | bool b => cases d; exact ⟨b, rfl, q _ H1 s1 p1⟩
    | int i => cases d; exact ⟨_, rfl, q _ H1 s1 p1⟩
    | str y => cases d; exact ⟨_, ⟨len_line p1.1, rfl⟩, q _ H1 s1 p1.2⟩
    | list xs =>
      cases d with
      | lst sq all => exact ⟨_, .inl ⟨_, sql_sub res_sub sq, rfl⟩, q _ H1 s1 (by rw [dats_empty all]; exact p1)⟩
    | tuple xs =>
      cases d with
      | tup sq all => exact ⟨_, .inr (.inl ⟨_, sqt_sub res_sub sq, rfl⟩), q _ H1 s1 (by rw [dats_empty all]; exact p1)⟩
    | dict xs =>
      cases d with
      | dic sq all => exact ⟨_, .inr (.inr ⟨_, res_sub _ _ sq, rfl⟩), q _ H1 s1 (by rw [datkv_empty all]; exact p1)⟩
/-! ### and, or, not, if -/
def dAnd (w u : DT) : DT := fun ρ P => w ρ fun c => if c = true then u ρ P else P false
def dOr (w u : DT) : DT := fun ρ P => w ρ fun c => if c = true then P true else u ρ P
def dNot (w : DT) : DT := fun ρ P => w ρ fun c => P (!c)
theorem pdw_and1 {w : DT} (h : PDT X a u1 w) : PDW X (.BoolOp .And [a] pos) u1 w := by obtain ⟨a1, b1⟩ := h; exact ⟨pw_and1 a1, b1⟩
theorem pdw_or1 {w : DT} (h : PDT X a u1 w) : PDW X (.BoolOp .Or [a] pos) u1 w := by obtain ⟨a1, b1⟩ := h; exact ⟨pw_or1 a1, b1⟩
theorem pdw_and {w u : DT} {rest : List Expr} (h : PDT X a u1 w) (h2 : PDW X (.BoolOp .And (b :: rest) pos) u2 u) : PDW X (.BoolOp .And (a :: b :: rest) pos) (tAnd u1 u2) (dAnd w u) := by
  obtain ⟨a1, b1⟩ := h
  obtain ⟨a2, b2⟩ := h2
  refine ⟨pw_and a1 a2, ⟨fun W ρ σ H P Q S hw q => ?_⟩⟩
  refine b1.go W ρ σ H _ _ S hw fun c H1 s1 p1 => ?_
  cases c with
  | true => exact (if_pos rfl).mpr (b2.go W ρ σ H1 _ _ (S.step s1) (by simpa using p1) fun c2 H2 s2 p2 => q c2 H2 (s1.trans s2) p2)
  | false => exact (if_neg (by decide)).mpr (q false H1 s1 (by simpa using p1))
theorem pdw_or {w u : DT} {rest : List Expr} (h : PDT X a u1 w) (h2 : PDW X (.BoolOp .Or (b :: rest) pos) u2 u) : PDW X (.BoolOp .Or (a :: b :: rest) pos) (tOr u1 u2) (dOr w u) := by
  obtain ⟨a1, b1⟩ := h
  obtain ⟨a2, b2⟩ := h2
  refine ⟨pw_or a1 a2, ⟨fun W ρ σ H P Q S hw q => ?_⟩⟩
  refine b1.go W ρ σ H _ _ S hw fun c H1 s1 p1 => ?_
  cases c with
  | true => exact (if_pos rfl).mpr (q true H1 s1 (by simpa using p1))
  | false => exact (if_neg (by decide)).mpr (b2.go W ρ σ H1 _ _ (S.step s1) (by simpa using p1) fun c2 H2 s2 p2 => q c2 H2 (s1.trans s2) p2)
theorem pdw_t {w : DT} (h : PDW X a u1 w) : PDT X a u1 w := by obtain ⟨a1, b1⟩ := h; exact ⟨a1.pt, b1⟩
theorem pdt_not {w : DT} (h : PDT X a u1 w) : PDT X (.UnaryOp .Not a pos) (tNot u1) (dNot w) := by
  obtain ⟨a1, b1⟩ := h
  exact ⟨pt_not a1, ⟨fun W ρ σ H P Q S hw q => b1.go W ρ σ H _ _ S hw fun c H1 s1 p1 => q (!c) H1 s1 p1⟩⟩
/-- as values, of truths -/
def dAndV (w u : DE) : DE := fun ρ P => w ρ fun r => boD r fun c => if c = true then u ρ P else P (atom (.bool false))
def dOrV (w u : DE) : DE := fun ρ P => w ρ fun r => boD r fun c => if c = true then P (atom (.bool true)) else u ρ P
def dNotV (w : DE) : DE := fun ρ P => w ρ fun r => boD r fun c => P (atom (.bool !c))
theorem pd_one {op} {w : DE} (h : PD X a ta w) : PD X (.BoolOp op [a] pos) ta w := by obtain ⟨a1, b1⟩ := h; exact ⟨pe_one a1, b1⟩
theorem pd_and {w u : DE} {rest : List Expr} (h : PD X a ta w) (h2 : PD X (.BoolOp .And (b :: rest) pos) tb u) : PD X (.BoolOp .And (a :: b :: rest) pos) (tAndV ta tb) (dAndV w u) := by
  obtain ⟨a1, b1⟩ := h
  obtain ⟨a2, b2⟩ := h2
  refine ⟨pe_and a1 a2, ⟨fun W ρ σ H P Q S hw q => ?_⟩⟩
  refine b1.go W ρ σ H _ _ S hw fun r v H1 s1 e1 p1 => ?_
  obtain ⟨c, rfl, p⟩ := boD_is S s1 e1 p1
  refine ⟨c, rfl, ?_⟩
  cases c with
  | true => exact (if_pos rfl).mpr (b2.go W ρ σ H1 _ _ (S.step s1) (by simpa using p) fun r2 v2 H2 s2 e2 p2 => q r2 v2 H2 (s1.trans s2) (e2.back s1 S.now) p2)
  | false => exact (if_neg (by decide)).mpr (q _ _ H1 s1 er_bl (by simpa using p))
theorem pd_or {w u : DE} {rest : List Expr} (h : PD X a ta w) (h2 : PD X (.BoolOp .Or (b :: rest) pos) tb u) : PD X (.BoolOp .Or (a :: b :: rest) pos) (tOrV ta tb) (dOrV w u) := by
  obtain ⟨a1, b1⟩ := h
  obtain ⟨a2, b2⟩ := h2
  refine ⟨pe_or a1 a2, ⟨fun W ρ σ H P Q S hw q => ?_⟩⟩
  refine b1.go W ρ σ H _ _ S hw fun r v H1 s1 e1 p1 => ?_
  obtain ⟨c, rfl, p⟩ := boD_is S s1 e1 p1
  refine ⟨c, rfl, ?_⟩
  cases c with
  | true => exact (if_pos rfl).mpr (q _ _ H1 s1 er_bl (by simpa using p))
  | false => exact (if_neg (by decide)).mpr (b2.go W ρ σ H1 _ _ (S.step s1) (by simpa using p) fun r2 v2 H2 s2 e2 p2 => q r2 v2 H2 (s1.trans s2) (e2.back s1 S.now) p2)
theorem pd_not {w : DE} (h : PD X a ta w) : PD X (.UnaryOp .Not a pos) (tNotV ta) (dNotV w) := by
  obtain ⟨a1, b1⟩ := h
  refine ⟨pe_not a1, ⟨fun W ρ σ H P Q S hw q => ?_⟩⟩
  refine b1.go W ρ σ H _ _ S hw fun r v H1 s1 e1 p1 => ?_
  obtain ⟨c, rfl, p⟩ := boD_is S s1 e1 p1
  exact ⟨c, rfl, q _ _ H1 s1 er_bl p⟩
def dIfE (w : DT) (u1 u2 : DE) : DE := fun ρ P => w ρ fun c => if c = true then u1 ρ P else u2 ρ P
theorem pd_if {w : DT} {d1 d2 : DE} (h : PDT X c u1 w) (h1 : PD X a ta d1) (h2 : PD X b tb d2) : PD X (.IfExp c a b pos) (tIf u1 ta tb) (dIfE w d1 d2) := by
  obtain ⟨a1, b1⟩ := h
  obtain ⟨a2, b2⟩ := h1
  obtain ⟨a3, b3⟩ := h2
  refine ⟨pe_ifExp a1 a2 a3, ⟨fun W ρ σ H P Q S hw q => ?_⟩⟩
  refine b1.go W ρ σ H _ _ S hw fun c H1 s1 p1 => ?_
  cases c with
  | true => exact (if_pos rfl).mpr (b2.go W ρ σ H1 _ _ (S.step s1) (by simpa using p1) fun r2 v2 H2 s2 e2 p2 => q r2 v2 H2 (s1.trans s2) (e2.back s1 S.now) p2)
  | false => exact (if_neg (by decide)).mpr (b3.go W ρ σ H1 _ _ (S.step s1) (by simpa using p1) fun r2 v2 H2 s2 e2 p2 => q r2 v2 H2 (s1.trans s2) (e2.back s1 S.now) p2)
/-! ### a op b op c -/
def dChain (wo wo' : W2) (wa wb wc : DE) : DE := fun ρ P => wa ρ fun r1 => onD r1 fun x f => wb ρ fun r2 => onD r2 fun y g => wo x f y g fun r3 => boD r3 fun k =>
  if k = true then wc ρ fun r4 => onD r4 fun z h => wo' y g z h P else P (atom (.bool false))
theorem snd_chain {K : PySem.W.Frag} {r r' : R2} {ta tb tc : TE} {wo wo' : W2} {wa wb wc : DE} (o : OpS K r wo) (o' : OpS K r' wo') (h1 : Snd K ta wa) (h2 : Snd K tb wb) (h3 : Snd K tc wc) : Snd K (tChain r r' ta tb tc) (dChain wo wo' wa wb wc) := ⟨fun W ρ σ H P Q S h q => by
  refine h1.go W ρ σ H _ _ S h fun r1 v1 H1 s1 e1 p1 => ?_
  cases r1 with
  | bag => exact p1.elim
  | d x f =>
    refine h2.go W ρ σ H1 _ _ (S.step s1) p1 fun r2 v2 H2 s2 e2 p2 => ?_
    cases r2 with
    | bag => exact p2.elim
    | d y g =>
      have e2' := e2.back s1 S.now
      refine o.go W ρ σ H H2 v1 v2 x y f g _ _ S (s1.trans s2) (e1.step s2 S.now s1) e2' p2 fun r v H3 s3 e3 p3 => ?_
      have s123 := (s1.trans s2).trans s3
      obtain ⟨k, rfl, p⟩ := boD_is S s123 e3 p3
      refine ⟨k, rfl, ?_⟩
      cases k with
      | false => exact (if_neg (by decide)).mpr (q _ _ H3 s123 er_bl (by simpa using p))
      | true =>
        refine (if_pos rfl).mpr (h3.go W ρ σ H3 _ _ (S.step s123) (by simpa using p) fun r4 v4 H4 s4 e4 p4 => ?_)
        cases r4 with
        | bag => exact p4.elim
        | d z h => exact o'.go W ρ σ H H4 v2 v4 y z g h P Q S (s123.trans s4) (e2'.step (s3.trans s4) S.now (s1.trans s2)) (e4.back s123 S.now) p4 fun r v H5 s5 e5 p5 => q r v H5 ((s123.trans s4).trans s5) e5 p5⟩
theorem pd_chain {op op' : CmpOp} {r r' : R2} {wo wo' : W2} {wa wb wc : DE} (o : Op2 X (compareOp op) r wo) (o' : Op2 X (compareOp op') r' wo') (h1 : PD X a ta wa) (h2 : PD X b tb wb) (h3 : PD X c tc wc) (hm : lastMarks [op, op'] [b, c] = false := by with_unfolding_all rfl) :
    PD X (.Compare a [op, op'] [b, c] pos) (tChain r r' ta tb tc) (dChain wo wo' wa wb wc) := by
  obtain ⟨o1, o2⟩ := o
  obtain ⟨o3, o4⟩ := o'
  obtain ⟨a1, b1⟩ := h1
  obtain ⟨a2, b2⟩ := h2
  obtain ⟨a3, b3⟩ := h3
  exact ⟨pe_chain o1 o3 a1 a2 a3 hm, snd_chain o2 o4 b1 b2 b3⟩
theorem pdt_chain {op op' : CmpOp} {r r' : R2} {wo wo' : W2} {wa wb wc : DE} (o : Op2 X (compareOp op) r wo) (o' : Op2 X (compareOp op') r' wo') (h1 : PD X a ta wa) (h2 : PD X b tb wb) (h3 : PD X c tc wc) (hm : lastMarks [op, op'] [b, c] = false := by with_unfolding_all rfl) :
    PDT X (.Compare a [op, op'] [b, c] pos) (tTest (tChain r r' ta tb tc)) (dTest (dChain wo wo' wa wb wc)) := by
  obtain ⟨o1, o2⟩ := o
  obtain ⟨o3, o4⟩ := o'
  obtain ⟨a1, b1⟩ := h1
  obtain ⟨a2, b2⟩ := h2
  obtain ⟨a3, b3⟩ := h3
  refine ⟨pt_chain o1 o3 a1 a2 a3 hm, ⟨fun W ρ σ H P Q S h q => ?_⟩⟩
  refine (snd_chain o2 o4 b1 b2 b3).go W ρ σ H _ _ S h fun r v H1 s1 e1 p1 => ?_
  obtain ⟨b, rfl, p⟩ := boD_is S s1 e1 p1
  exact ⟨b, rfl, q b H1 s1 p⟩
end
end Pd

namespace Vd
open PySem PySem.Spec PyProof.Rows L2
/-! ### enumerate of a tuple -/
theorem meets_enumB {v : Value} {o : Obj} {H : Heap → Prop} (B : Begins v o H) :
    Meets (Builtin.«enumerate.__new__» ⟨[.type "enumerate", v], []⟩) (fun _ R s => H s.heap ∧
      R (.ok (.ret (.ref (s.heap.push o).objs.size))) { s with heap := (s.heap.push o).push { cls := .type "enumerate", data := .fields #[.none, .bool false, .ref s.heap.objs.size, rawInt 0, .none, .none] } }) :=
  .of_wp fun prog w A R s h => by
    obtain ⟨hp, g, d, tk, os⟩ := s; obtain ⟨h1, h⟩ := h
    have hsub := sub_enumerate
    have q1 : ∀ {A' : Around} {E : Value → Shared → Prop} {Q : Value → Shared → Prop}, Q (.ref hp.objs.size) ⟨hp.push o, g, d, tk, os⟩ → wpAny (model prog w) A' (pyIter v) Q E ⟨hp, g, d, tk, os⟩ :=
      fun q => B.iter prog w _ _ ⟨hp, g, d, tk, os⟩ _ h1 q
    wp_walk using q1
    refine wpAny_stack_any fun st => wpAny_pure ?_
    split
    · rename_i c _ _ _ _ _
      cases (c == Value.type "enumerate")
      · wp_walk using q1
        exact ⟨_, rfl, h⟩
      · wp_walk using q1
        exact ⟨_, rfl, h⟩
    · wp_walk using q1
      exact ⟨_, rfl, h⟩
section
variable {prog : Program} {w : World} {A : Around} {E : Value → Shared → Prop} {s : Shared}
theorem call_enumB {v : Value} {o : Obj} {H : Heap → Prop} {Q : Value → Shared → Prop} (B : Begins v o H) (h1 : H s.heap)
    (h : ∀ h', IsEnum h' (s.heap.objs.size + 1) s.heap.objs.size 0 .none → h'.get? s.heap.objs.size = some o → h'.objs.size = s.heap.objs.size + 2 →
      (∀ b o, s.heap.get? b = some o → h'.get? b = some o) → Q (.ref (s.heap.objs.size + 1)) { s with heap := h' }) :
    wpAny (model prog w) A (call (.type "enumerate") [v]) Q E s := by
  refine callType_new F.called_enumerate (by decide) (F.typeCall_enumerate_1 _) (F.newCall_enumerate_1 _) (fun obj => F.args_object_init_2 obj _) F.entry_enumerate_new
    (meets_enumB B) ⟨h1, ?_⟩
  have hz : (s.heap.push o).objs.size = s.heap.objs.size + 1 := Heap.size_push ..
  show _ ∧ _
  rw [hz]
  have he : IsEnum ((s.heap.push o).push { cls := .type "enumerate", data := .fields #[.none, .bool false, .ref s.heap.objs.size, rawInt 0, .none, .none] }) (s.heap.objs.size + 1) s.heap.objs.size 0 .none := by
    have := Heap.get?_push_size (s.heap.push o) (o := { cls := .type "enumerate", data := .fields #[.none, .bool false, .ref s.heap.objs.size, rawInt 0, .none, .none] }) rfl
    rw [hz] at this; exact this
  refine ⟨⟨_, he, rfl⟩, h _ he (Heap.get?_push_of_some _ (Heap.get?_push_size _ B.free)) (by rw [Heap.size_push, hz]) fun b o x => Heap.get?_push_of_some _ (Heap.get?_push_of_some _ x)⟩
end
/-- the tuple at a as it stands at each turn, each item in a new pair -/
def IteT (K : PySem.W.Frag) (a : Addr) : It :=
  ⟨fun i H => ∃ (xs : List V) (x : V), SqT K H a xs ∧ xs[i]? = some x, fun i H v H' => ∃ T x, v = .ref T ∧ H T = none ∧ H' = upd H T (.tup [.int (i : Nat), x]) ∧ ∀ xs, SqT K H a xs → xs[i]? = some x, fun i H => ∃ xs : List V, SqT K H a xs ∧ xs.length ≤ i⟩
theorem turn_enumT {P : Program} {w : World} {K : PySem.W.Frag} {elts : List Expr} {kk : Nat} {tpos : Pos} (a e it : Addr) :
    Turn P w K (.Tuple elts kk tpos) (IteT K a) [e, it] e (fun i h => (∃ old, IsEnum h e it ((i : Nat) : Int) old) ∧ h.IsTupleIter it a i ∧ e ≠ it ∧ a ≠ it ∧ a ≠ e) where
  mem := by simp
  obj := fun i h st b hb => by
    obtain ⟨⟨old, he⟩, ⟨o, ho, hc, hd⟩, _⟩ := st
    have e' : b = e ∨ b = it := by simpa using hb
    rcases e' with z | z
    · rw [z]; exact ⟨_, he, fun v q => nomatch q⟩
    · rw [z]; exact ⟨o, ho, fun v q => by rw [hd] at q; cases q⟩
  keep := fun i h h' st k => let ⟨⟨old, he⟩, hi, hne, h4, h5⟩ := st; ⟨⟨old, k e (by simp) _ he⟩, hi.at fun o q => k it (by simp) o q, hne, h4, h5⟩
  item := by
    intro X hP hw hK hc i pins s σ H E I hf st hg
    subst hP hw hK
    obtain ⟨⟨old, he⟩, hit, hne, h4, h5⟩ := st
    obtain ⟨xs, x, hq, hx⟩ := hg
    obtain ⟨its, rv, p, hz⟩ := I.tuple hq
    obtain ⟨u, hu, ru⟩ := rv.get hx
    have hel : e < s.heap.objs.size := Heap.lt_size he
    have hil : it < s.heap.objs.size := by obtain ⟨_, q, _⟩ := hit; exact Heap.lt_size q
    have hi : i < its.toArray.size := by
      have := (List.getElem?_eq_some_iff.mp hu).1
      simpa using this
    refine wpAny_pyNext_enum_itemD (Draws.tuple (show X.A.in1.handled = none from I.ok.hd hc) it a h4 its.toArray) he ⟨hit, p⟩ hi hne (by simp [hne, Ne.symm h5]) fun x' h' tk hx' ho hit' hT hsz hk => ?_
    have ex : x' = u := by
      have : its.toArray[i]? = some u := by simpa using hu
      rw [this] at hx'
      injection hx' with z
      exact z.symm
    subst ex
    refine ⟨_, rfl, wpAny_letOwnedTupleGo_enum (s := { s with heap := h', toks := tk + 1 }) ho fun h'' he' sb => ?_⟩
    have hT2 : h''.get? s.heap.objs.size = some { cls := .type "tuple", data := .seq #[.int i tk, x'] } := (sb.2 _ (Nat.ne_of_gt hel)).trans hT
    have new : ObjOk X.prog X.w (upd H s.heap.objs.size (.tup [.int (i : Nat), x])) h'' s.heap.objs.size (.tup [.int (i : Nat), x]) :=
      ⟨by show 2 ≤ sizeLine; decide, [.int i tk, x'], .cons ⟨_, rfl⟩ (.cons ru .nil), ⟨_, hT2, rfl, _, rfl⟩⟩
    have I1 : Inv X pins σ (upd H s.heap.objs.size (.tup [.int (i : Nat), x])) { s with heap := h'', toks := tk + 1 } :=
      I.turnedNew (ch := [e, it]) (fun b ob hb q => (sb.2 b (fun z => hb (by simp [z]))).trans (hk b ob (fun z => hb (by simp [z])) (fun z => hb (by simp [z])) q)) hf (Nat.le_refl _) new
    refine ⟨.ref s.heap.objs.size, _, I1, rfl, ⟨_, x, rfl, I.hok.fresh (Nat.le_refl _), rfl, fun ys hy => by rw [I.tuple_inj hy hq]; exact hx⟩, ⟨⟨x', ?_⟩, hit'.1.at fun o q => (sb.2 it (Ne.symm hne)).trans q, hne, h4, h5⟩, fun b hb => ?_⟩
    · have e1 : ((i + 1 : Nat) : Int) = (i : Int) + 1 := by omega
      rw [e1]; exact he'
    · have hb' : b < s.heap.objs.size := by
        have e' : b = e ∨ b = it := by simpa using hb
        rcases e' with z | z
        · rw [z]; exact hel
        · rw [z]; exact hil
      rw [upd_ne (Nat.ne_of_lt hb')]
      exact (hf b hb).1
  done := by
    intro X hP hw hK hc i pins s σ H E I hf st hg
    subst hP hw hK
    obtain ⟨⟨old, he⟩, hit, hne, h4, h5⟩ := st
    obtain ⟨xs, hq, hx⟩ := hg
    obtain ⟨its, rv, p, hz⟩ := I.tuple hq
    obtain ⟨f0, f1, f2, f3, f4, f5⟩ := hf it (by simp)
    have hl := rv.length
    have hn : its.toArray[i]? = none := by simp; omega
    have hT : s.TypeIs (.ref e) "enumerate" := ⟨_, he, rfl⟩
    unfold pyNext
    refine wpAny_bind (wpAny_attempt (wpAny_callSpecial?_slot (name := Str.ofString "__next__") hT F.slot_enumerate_next
      (wpAny_call_entry F.slot_enumerate_next hT F.entry_enumerate_next ?_ (F.args_enumerate_next_1 _))))
    show wpAny _ _ (field (.ref e) 2 >>= _) _ _ _
    refine wpAny_bind (wpAny_field he rfl (x := .ref it) rfl ?_)
    refine wpAny_bind (RZ.nextOf_tuple_end (I.ok.hd hc) hit p hn fun h' x eb hx' => ?_)
    obtain ⟨o, ho, hc'⟩ := hx'
    refine wpAny_bind (wpAny_isInstance (T := "StopIteration") (b := true) ⟨o, ho, hc'⟩ isSubtype_stop ?_)
    exact wpAny_pure ⟨rfl, I.turned (t' := s.toks) (fun b o hb q => eb b o hb q) f0 f1 f3 f4 f5⟩
  self := fun A i s Q E st h => let ⟨⟨_, he⟩, _⟩ := st; wpAny_pyIter_enum he h
def iEnumT (K : PySem.W.Frag) (ta : TA) : TI := fun σ H R => ta σ H fun vs H1 => ∃ a xs, vs = [.ref a] ∧ SqT K H1 a xs ∧ R (IteT K a) H1
theorem pi_enumT {X : Cx} {e : Expr} {ta : TA} {p pos tpos : Pos} {elts : List Expr} {kk : Nat} (hg : Gl X "enumerate") (hm : X.mg "enumerate" = none) (ha : PA X [e] ta) (hs : starEach [e] X.env = [(false, eval e X.env)] := by rfl) :
    PI X (.Tuple elts kk tpos) (.Call (.Name "enumerate" p) [e] [] pos) (iEnumT X.K ta) := by
  refine ⟨fun pins s σ H R I h => ?_⟩
  refine Call_ (ld_blt I hg hm boot_enumerate (PyProof.Rows.callWith_type1 (thn (ha.run pos pins s σ H _ I h) fun us s1 ⟨vs, H1, I1, r1, q1⟩ => ?_) hs rfl))
  obtain ⟨a, xs, ex, hq, q⟩ := q1
  subst ex
  cases r1 with
  | cons r rr =>
    cases rr
    cases r
    obtain ⟨its, rv, p', hz⟩ := I1.tuple hq
    have hal : a < s1.heap.objs.size := by obtain ⟨_, q, _⟩ := id p'; exact Heap.lt_size q
    refine call_enumB (begins_tuple a its.toArray) p' fun h' he hit hsz hk => wpAny_pyIter_enum he ?_
    have I2 : Inv X pins σ H1 { s1 with heap := h' } := I1.kept (t' := s1.toks) hk
    refine ⟨s1.heap.objs.size + 1, [s1.heap.objs.size + 1, s1.heap.objs.size], _, _, H1, rfl, I2, turn_enumT a (s1.heap.objs.size + 1) s1.heap.objs.size, ⟨⟨.none, he⟩, ⟨_, hit, rfl, rfl⟩, Nat.succ_ne_self _, Nat.ne_of_lt hal, Nat.ne_of_lt (Nat.lt_succ_of_lt hal)⟩, fun b hb => ?_, q⟩
    have e' : b = s1.heap.objs.size + 1 ∨ b = s1.heap.objs.size := by simpa using hb
    have hle : s1.heap.objs.size ≤ b := by
      rcases e' with z | z
      · rw [z]; exact Nat.le_add_right _ _
      · rw [z]; exact Nat.le_refl _
    exact I1.fpOk hle (I1.hok.fresh hle)
theorem walk_enumT {K : PySem.W.Frag} {a : Addr} {xs : List V} : Walk (IteT K a) xs.length (fun H => SqT K H a xs) (YPair (fun i => some (.int (i : Nat))) (fun i => xs[i]?)) := by
  refine ⟨fun i _ hi q => ⟨xs, xs[i], q, by simp [hi]⟩, fun _ q => ⟨xs, q, Nat.le_refl _⟩, fun i H v H' _ q y => ?_⟩
  obtain ⟨T, x, h1, h2, h3, h4⟩ := y
  exact ⟨T, .int (i : Nat), x, h1, h2, h3, rfl, h4 xs q⟩
end Vd

namespace Vd
open PySem PySem.Spec PyProof.Rows L2
/-! ### sum of a tuple of ints -/
section
variable {prog : Program} {w : World} {A : Around} {E : Value → Shared → Prop} {s : Shared} {l : Addr} {its : List Value} {ns : List Int} {Q : Value → Shared → Prop}
theorem sum_tupRaw (hh : A.handled = none) (hl : s.heap.IsTuple l its.toArray) (hi : IntsAre its ns)
    (h : ∀ h' tk t', (∀ b o, s.heap.get? b = some o → h'.get? b = some o) → Q (.int ns.sum t') { s with heap := h', toks := tk }) : wpAny (model prog w) A (call (.builtin "sum") [.ref l]) Q E s := by
  obtain ⟨xs, e⟩ := hi.allInts.items
  have hn : numsOf (intItems xs).toList = ns := by rw [← e]; exact hi.numsOf
  rw [nums_intItems] at hn
  rw [e] at hl
  have hlt : l < s.heap.objs.size := by obtain ⟨_, q, _⟩ := id hl; exact Heap.lt_size q
  refine call_sum_walkG (wpAny_pyIter_tuple hl ?_)
  refine ⟨_, [_, l], [_], _, _, _, numAt xs, rfl, Walks.tuple (A := A.in1) (show A.in1.handled = none from hh) s.heap.objs.size l (Nat.ne_of_lt hlt) (intItems xs), ⟨⟨_, Heap.get?_push_size _ rfl, rfl, rfl⟩, hl.push _⟩, fun d hd => ?_, (fun _ _ => intItems_at), fun h' tk t' hk => ?_⟩
  · show d < (s.heap.push _).objs.size
    rw [Heap.size_push]
    rcases List.mem_cons.mp hd with z | hd
    · rw [z]
      exact Nat.lt_succ_self _
    · rw [List.mem_singleton.mp hd]
      exact Nat.lt_succ_of_lt hlt
  · have := h h' tk t' fun b o hb => hk b o (fun m => by
      rw [List.mem_singleton.mp m] at hb
      exact absurd (Heap.lt_size hb) (Nat.lt_irrefl _)) (Heap.get?_push_of_some _ hb)
    have e2 : preSum (numAt xs) (intItems xs).size = ns.sum := by
      rw [preSum_eq, List.take_of_length_le (by simp [intItems]), hn]
    rw [e2]
    exact this
end
section
variable {X : Cx}
theorem cr_sumT (hc : X.calm = true) : CallR X (.builtin "sum") (fun vs H Q => ∃ (a : Addr) (ns : List Int), vs = [V.ref a] ∧ SqT X.K H a (ns.map V.int) ∧ Q (.int ns.sum) H) := by
  intro pins s σ H vs us Q I r h
  obtain ⟨a, ns, rfl, hs, q⟩ := h
  obtain ⟨its, rv, hl, _⟩ := I.tuple hs
  rw [Vals.ref1 r]
  exact sum_tupRaw (I.ok.hd hc) hl rv.ints fun h' tk t' hk => ⟨.int _, H, I.kept hk, ⟨_, rfl⟩, q⟩
end
/-! ### zip of two tuples, as a walk -/
theorem walk_zipT {K : PySem.W.Frag} {a b : Addr} {xs ys : List V} {n : Nat} (hn : n = min xs.length ys.length) : Walk (RZ.ItzT K a b) n (fun H => SqT K H a xs ∧ SqT K H b ys) (YPair (fun i => xs[i]?) (fun i => ys[i]?)) := by
  subst hn
  refine ⟨fun i _ hi q => ?_, fun _ q => ⟨xs, ys, q.1, q.2, by omega⟩, fun i H v H' _ q y => ?_⟩
  · have h1 : i < xs.length := by omega
    have h2 : i < ys.length := by omega
    exact ⟨xs, ys, xs[i], ys[i], q.1, q.2, by simp [h1], by simp [h2]⟩
  · obtain ⟨T, x, z, h1, h2, h3, h4, h5⟩ := y
    exact ⟨T, x, z, h1, h2, h3, h4 xs q.1, h5 ys q.2⟩
end Vd

/-! D3: operators, subscripts, slices, calls of builtins -/
namespace Pd
open PySem PySem.Spec PyProof.Rows L2 Vd
open Classical
section
variable {K : PySem.W.Frag} {W : Wd} {ρ : Ro} {σ : L2.St} {H H1 H2 : Hp} {v : V}
def goodF (f : Fl) (x : PyData) : Bool := f.good || pure_ x
theorem er_of {b : Bool} {x : PyData} (w : Dat K (res (okw W) H1) v x) (g : b = true → Dat K (res (okg W ρ σ) H1) v x) : ER K W ρ σ H H1 v (.d x (flIf b .gd)) := by
  cases b with
  | true => exact g rfl
  | false => exact w
/-! ### indexes -/
theorem dats_get {F : Hp} : ∀ {vs : List V} {ds : List PyData} {j : Nat} {z : PyData}, DatAll K F vs ds → ds[j]? = some z → ∃ u, vs[j]? = some u ∧ Dat K F u z
  | _, _, _, _, .nil, e => by simp at e
  | _, _, 0, _, .cons a _, e => by simp at e; subst e; exact ⟨_, rfl, a⟩
  | _, _, j + 1, _, .cons _ r, e => by
    obtain ⟨u, h1, h2⟩ := dats_get (j := j) r (by simpa using e)
    exact ⟨u, by simpa using h1, h2⟩
theorem dats_atI {F : Hp} {vs : List V} {ds : List PyData} {i : Int} {z : PyData} (h : DatAll K F vs ds) (e : atI ds i = some z) : ∃ u, atI vs i = some u ∧ Dat K F u z := by
  unfold atI at e ⊢
  rw [Option.bind_eq_some_iff] at e
  obtain ⟨j, e1, e2⟩ := e
  obtain ⟨u, h1, h2⟩ := dats_get h e2
  exact ⟨u, by rw [dats_len h, e1]; exact h1, h2⟩
theorem dats_val {F F' : Hp} {vs : List V} {ds : List PyData} {i : Int} {u : V} {z : PyData} (h : DatAll K F vs ds) (e : atI ds i = some z) (e2 : atI vs i = some u) : Dat K F u z := by
  obtain ⟨u', e3, d⟩ := dats_atI h e
  rw [e2] at e3
  cases e3
  exact d
def wIx : W2 := fun x f y _ P => match x, y with
  | .tuple ds, .int i => ∃ z, atI ds i = some z ∧ P (.d z (flIf (f.parts || pure_ z) .gd))
  | .list ds, .int i => ∃ z, atI ds i = some z ∧ P (.d z (flIf (f.parts || pure_ z) .gd))
  | _, _ => False
theorem ops_ix : OpS K (fun x y H Q => rIxT K x y H Q ∨ rIxL K x y H Q) wIx := ⟨fun W ρ σ H H1 x y dx dy fx fy P Q S s ex ey h q => by
  cases dx with
  | tuple ds =>
    cases dy with
    | int i =>
      obtain ⟨z, e, p⟩ := h
      obtain ⟨a, xs, rfl, sq, w, g⟩ := ER.tup S s ex
      cases ER.flat S s rfl ey
      obtain ⟨u, eu, du⟩ := dats_atI w e
      refine .inl ⟨a, xs, i, u, rfl, rfl, sq, eu, q _ u H1 (Bu.refl _ _) (er_of du fun b => ?_) p⟩
      rw [Bool.or_eq_true] at b
      rcases b with b | b
      · exact dats_val (F' := H1) (g (by rw [b]; rfl)) e eu
      · exact pure_g S s b du
    | _ => exact h.elim
  | list ds =>
    cases dy with
    | int i =>
      obtain ⟨z, e, p⟩ := h
      obtain ⟨a, xs, rfl, sq, w, g⟩ := ER.lst S s ex
      cases ER.flat S s rfl ey
      obtain ⟨u, eu, du⟩ := dats_atI w e
      refine .inr ⟨a, xs, i, u, rfl, rfl, sq, eu, q _ u H1 (Bu.refl _ _) (er_of du fun b => ?_) p⟩
      rw [Bool.or_eq_true] at b
      rcases b with b | b
      · exact dats_val (F' := H1) (g (by rw [b]; rfl)) e eu
      · exact pure_g S s b du
    | _ => exact h.elim
  | _ => exact h.elim⟩
/-! ### + -/
def wAdd : W2 := fun x f y g P => match x, y with
  | .int i, .int j => P (atom (.int (i + j)))
  | .str i, .str j => i.length + j.length ≤ 1000000 ∧ P (atom (.str (i ++ j)))
  | .tuple ds, .tuple es => ds.length + es.length ≤ 1000000 ∧ P (.d (.tuple (ds ++ es)) (flIf (goodF f x && goodF g y) .gd))
  | .list ds, .list es => (f = .fr ∨ f = .ow) ∧ (g = .fr ∨ g = .ow) ∧ ds.length + es.length ≤ 1000000 ∧ P (.d (.list (ds ++ es)) .fr)
  | _, _ => False
theorem dats_app {F : Hp} : ∀ {vs ws : List V} {ds es : List PyData}, DatAll K F vs ds → DatAll K F ws es → DatAll K F (vs ++ ws) (ds ++ es)
  | _, _, _, _, .nil, h => h
  | _, _, _, _, .cons x y, h => .cons x (dats_app y h)
theorem er_cell {ds : List PyData} {f : Fl} (S : Sim K W ρ σ H) (s : Bu W.β H H1) (h : ER K W ρ σ H H1 v (.d (.list ds) f)) (o : f = .fr ∨ f = .ow) : ∃ p xs, v = .ref p ∧ H1 p = some (.lst xs) ∧ DatAll K (res (okg W ρ σ) H1) xs ds := by
  rcases o with rfl | rfl
  · obtain ⟨p, e1, e2, vs, e4, all⟩ := h
    exact ⟨p, vs, e1, e4, DatAll.up resgp_g all⟩
  · obtain ⟨p, e1, e2, vs, e4, all⟩ := h
    exact ⟨p, vs, e1, e4, all⟩
theorem good_parts {f : Fl} {ds : List PyData} (h : goodF f (.tuple ds) = true) : (f.parts || pures ds) = true := by
  cases f with
  | wk => simpa [goodF, Fl.good, Fl.parts, pure_] using h
  | ow => rfl
  | fr => rfl
  | gd => rfl
theorem ops_add : OpS K (fun x y H Q => rI0 (fun i j => .int (i + j)) x y H Q ∨ (∃ i j, x = .str i ∧ y = .str j ∧ i.length + j.length ≤ sizeLine ∧ Q (.str (i ++ j)) H) ∨ rCatA K x y H Q ∨ rCat x y H Q) wAdd := ⟨fun W ρ σ H H1 x y dx dy fx fy P Q S s ex ey h q => by
  cases dx with
  | int i =>
    cases dy with
    | int j =>
      cases ER.flat S s rfl ex
      cases ER.flat S s rfl ey
      exact .inl ⟨i, j, rfl, rfl, q _ _ H1 (Bu.refl _ _) er_int h⟩
    | _ => exact h.elim
  | str i =>
    cases dy with
    | str j =>
      cases ER.flat S s rfl ex
      cases ER.flat S s rfl ey
      exact .inr (.inl ⟨i, j, rfl, rfl, len_line h.1, q _ _ H1 (Bu.refl _ _) er_str h.2⟩)
    | _ => exact h.elim
  | tuple ds =>
    cases dy with
    | tuple es =>
      obtain ⟨few, p⟩ := h
      have wx := ER.wk S s ex
      have wy := ER.wk S s ey
      obtain ⟨a, xs, rfl, sq, w, g⟩ := ER.tup S s ex
      obtain ⟨b, ys, rfl, sq2, w2, g2⟩ := ER.tup S s ey
      have l1 := dats_len w
      have l2 := dats_len w2
      have gg : (goodF fx (.tuple ds) && goodF fy (.tuple es)) = true → Dat K (res (okg W ρ σ) H1) (.ref a) (.tuple ds) ∧ Dat K (res (okg W ρ σ) H1) (.ref b) (.tuple es) := fun z => by
        rw [Bool.and_eq_true] at z
        exact ⟨ER.gd S s ex z.1, ER.gd S s ey z.2⟩
      refine .inr (.inr (.inl ⟨a, b, xs, ys, rfl, rfl, sq, sq2, len_line (by omega), fun e => ?_, fun _ e => ?_, fun _ _ p0 np => ?_⟩))
      · have : ds = [] := List.eq_nil_of_length_eq_zero (by rw [← l1, e]; rfl)
        subst this
        exact q _ _ H1 (Bu.refl _ _) (er_of wy fun z => (gg z).2) p
      · have : es = [] := List.eq_nil_of_length_eq_zero (by rw [← l2, e]; rfl)
        subst this
        rw [List.append_nil] at p
        exact q _ _ H1 (Bu.refl _ _) (er_of wx fun z => (gg z).1) p
      · refine q _ _ _ (Bu.of (same_new np)) (er_tup S s np (dats_app w w2) fun z => ?_) p
        rw [Bool.and_eq_true] at z
        exact dats_app (g (good_parts z.1)) (g2 (good_parts z.2))
    | _ => exact h.elim
  | list ds =>
    cases dy with
    | list es =>
      obtain ⟨o1, o2, few, p⟩ := h
      obtain ⟨a, xs, rfl, at_a, all1⟩ := er_cell S s ex o1
      obtain ⟨b, ys, rfl, at_b, all2⟩ := er_cell S s ey o2
      have l1 := dats_len all1
      have l2 := dats_len all2
      refine .inr (.inr (.inr ⟨a, b, xs, ys, rfl, rfl, at_a, at_b, len_line (by omega), fun p0 np => ?_⟩))
      have := er_lst (b := true) S s np (DatAll.up resg_w (dats_app all1 all2)) fun _ => dats_app all1 all2
      exact q _ _ _ (Bu.of (same_new np)) this p
    | _ => exact h.elim
  | _ => exact h.elim⟩
end
end Pd

namespace Vd
open PySem PySem.Spec PyProof.Rows L2
open AutoSeq1 in
theorem list_extend_tup (l : Addr) (items : Array Value) (n : Nat) (b : Addr) (items2 : Array Value) (n2 : Nat) (d2 : Option Addr) (s2 : Array (Option Value)) (hs0 : ¬(!items.isEmpty && Builtin.List.listTooLong (items.size + items2.size)) = true) (hs1 : items.size ≤ sizeLine) (hs2 : items.size + items2.size ≤ sizeLine + 1) :
    Meets (Builtin.«list.extend» ⟨[.ref l, .ref b], []⟩) (fun _ R s => s.heap.get? l = some { cls := .type "list", dict := none, data := .seq items n, slots := #[] } ∧ s.heap.get? b = some { cls := .type "tuple", dict := d2, data := .seq items2 n2, slots := s2 } ∧ R (.ok (.ret Value.none)) { s with heap := s.heap.update l (Obj.mapSeq fun x => x ++ items2), toks := s.toks }) :=
  .of_wp fun prog w A R s h => by
    obtain ⟨hp, g, d, tk, os⟩ := s; obtain ⟨hl, hb, h⟩ := h; have f1 := idx_int; have f2 := AutoSeq1.sub_tuple_tuple; have f3 := AutoSeq1.sub_list_list; have f4 := AutoSeq1.sub_tuple_list; have f5 := AutoSeq1.sub_list_tuple;
    have hz' : (items ++ items2).size ≤ sizeLine + 1 := by rw [Array.size_append]; exact hs2
    wp_walk using (wpAny_updateSeq hl rfl (hz := hs1) (_hz' := hz')), wpAny_loadPart' hl, wpAny_loadPart' hb; exact ⟨_, rfl, h⟩
section
variable {X : Cx}
/-- xs.extend(t), t a tuple -/
theorem mt_extendT : MtM X "list.extend" (fun x vs H Q => ∃ l b xs zs, x = .ref l ∧ vs = [.ref b] ∧ H l = some (.lst xs) ∧ SqT X.K H b zs ∧ xs.length + zs.length ≤ sizeLine ∧ Q .non (upd H l (.lst (xs ++ zs)))) := by
  intro pins s σ H x vs v us Q I rx rv h
  obtain ⟨l, b, xs, zs, rfl, rfl, hH, hB, hz, q⟩ := h
  cases rx
  obtain ⟨u, rfl, ru⟩ := rv.one
  cases ru
  obtain ⟨z, its, n, r, hl, e⟩ := I.lstM hH
  obtain ⟨its2, r2, ⟨⟨c2, d2, dt2, s2⟩, o2, hc2, n2, hd2⟩, f2⟩ := I.tuple hB
  simp only at hc2 hd2
  subst hc2 hd2
  have e1 := r2.length
  have hsz : its.toArray.size + its2.toArray.size ≤ sizeLine := by rw [List.size_toArray, List.size_toArray]; omega
  have hlong : ¬ (!its.toArray.isEmpty && Builtin.List.listTooLong (its.toArray.size + its2.toArray.size)) = true := by
    rw [notLongL hsz, Bool.and_false]
    exact Bool.false_ne_true
  refine call_meets F.slot_list_extend ⟨_, e, rfl⟩ F.entry_list_extend (F.args_list_extend_2 _ _)
    (list_extend_tup l its.toArray n b its2.toArray n2 d2 s2 hlong (by rw [List.size_toArray]; omega) (by omega)) ⟨e, o2, ?_⟩
  refine ⟨.non, _, I.lset (its' := its ++ its2) hH e (by simp) (r.append r2) ?_, rfl, q⟩
  rw [List.length_append]
  omega
end
end Vd

/-! D4: more operators, slices, calls of builtins -/
namespace Pd
open PySem PySem.Spec PyProof.Rows L2 Vd
open Classical
section
variable {K : PySem.W.Frag} {W : Wd} {ρ : Ro} {σ : L2.St} {H H1 H2 : Hp} {v : V}
/-- two flat values in, a flat value out -/
def wFlat (k : PyData → PyData → (PyData → Prop) → Prop) : W2 := fun x _ y _ P => flatX x = true ∧ flatX y = true ∧ k x y fun z => flatX z = true ∧ P (atom z)
def wII (C : Int → Int → Prop) (g : Int → Int → PyData) : W2 := fun x _ y _ P => match x, y with
  | .int i, .int j => C i j ∧ P (atom (g i j))
  | _, _ => False
def wII0 (g : Int → Int → PyData) : W2 := fun x _ y _ P => match x, y with
  | .int i, .int j => P (atom (g i j))
  | _, _ => False
theorem ops_ii {C : Int → Int → Prop} {g : Int → Int → PyData} (fl : ∀ i j, flatX (g i j) = true) : OpS K (rI C fun i j => flatV_ (g i j)) (wII C g) := ⟨fun W ρ σ H H1 x y dx dy fx fy P Q S s ex ey h q => by
  cases dx with
  | int i =>
    cases dy with
    | int j =>
      cases ER.flat S s rfl ex
      cases ER.flat S s rfl ey
      exact ⟨i, j, rfl, rfl, h.1, q _ _ H1 (Bu.refl _ _) (er_atom (fl i j)) h.2⟩
    | _ => exact h.elim
  | _ => exact h.elim⟩
theorem ops_ii0 {g : Int → Int → PyData} (fl : ∀ i j, flatX (g i j) = true) : OpS K (rI0 fun i j => flatV_ (g i j)) (wII0 g) := ⟨fun W ρ σ H H1 x y dx dy fx fy P Q S s ex ey h q => by
  cases dx with
  | int i =>
    cases dy with
    | int j =>
      cases ER.flat S s rfl ex
      cases ER.flat S s rfl ey
      exact ⟨i, j, rfl, rfl, q _ _ H1 (Bu.refl _ _) (er_atom (fl i j)) h⟩
    | _ => exact h.elim
  | _ => exact h.elim⟩
def rAdd (K : PySem.W.Frag) : R2 := fun x y H Q => rI0 (fun i j => .int (i + j)) x y H Q ∨ (∃ i j, x = .str i ∧ y = .str j ∧ i.length + j.length ≤ sizeLine ∧ Q (.str (i ++ j)) H) ∨ rCatA K x y H Q ∨ rCat x y H Q
def rLt_ : R2 := fun x y H Q => rI0 (fun i j => .bl (decide (i < j))) x y H Q ∨ ∃ i j, x = .str i ∧ y = .str j ∧ Q (.bl (decide (i.cps.toList < j.cps.toList))) H
def rLe_ : R2 := fun x y H Q => rI0 (fun i j => .bl (decide (i ≤ j))) x y H Q ∨ ∃ i j, x = .str i ∧ y = .str j ∧ Q (.bl (!decide (j.cps.toList < i.cps.toList))) H
def rEq_ (K : PySem.W.Frag) : R2 := fun x y H Q => rEq x y H Q ∨ ∃ d e, Dat K H x d ∧ Dat K H y e ∧ SeqAt.shaped d = true ∧ SeqAt.shaped e = true ∧ Q (.bl (PyData.eqv d e)) H
def rNe_ (K : PySem.W.Frag) : R2 := fun x y H Q => rNe x y H Q ∨ ∃ d e, Dat K H x d ∧ Dat K H y e ∧ SeqAt.shaped d = true ∧ SeqAt.shaped e = true ∧ Q (.bl (!PyData.eqv d e)) H
def rMul (K : PySem.W.Frag) : R2 := fun x y H Q => rI CMul (fun i j => .int (i * j)) x y H Q ∨ rRepS K x y H Q ∨ ∃ z : Str, x = .str z ∧ y = .int 2 ∧ 2 * z.length ≤ 1000000 ∧ ∀ z2 : Str, z2.cps.toList = z.cps.toList ++ z.cps.toList → Q (.str z2) H
abbrev wSub : W2 := wII0 fun i j => .int (i - j)
abbrev wGt : W2 := wII0 fun i j => .bool (decide (j < i))
abbrev wGe : W2 := wII0 fun i j => .bool (decide (j ≤ i))
abbrev wMod : W2 := wII (fun _ j => 0 < j) fun i j => .int (i % j)
abbrev wDiv : W2 := wII CDiv fun i j => .int (i / j)
abbrev wPow : W2 := wII CPow fun i j => .int (i ^ j.toNat)
variable {X : Cx} {te ta tb : TE} {tl th : TO}
theorem od_sub : Op2 X (binaryOp .Sub) (rI0 fun i j => .int (i - j)) wSub := ⟨op_sub, ops_ii0 (g := fun i j => .int (i - j)) fun _ _ => rfl⟩
theorem od_mod : Op2 X (binaryOp .Mod) (rI (fun _ j => 0 < j) fun i j => .int (i % j)) wMod := ⟨op_mod, ops_ii (g := fun i j => .int (i % j)) fun _ _ => rfl⟩
theorem od_div : Op2 X (binaryOp .FloorDiv) (rI CDiv fun i j => .int (i / j)) wDiv := ⟨op_fdiv, ops_ii (g := fun i j => .int (i / j)) fun _ _ => rfl⟩
theorem od_pow : Op2 X (binaryOp .Pow) (rI CPow fun i j => .int (i ^ j.toNat)) wPow := ⟨op_pow, ops_ii (g := fun i j => .int (i ^ j.toNat)) fun _ _ => rfl⟩
theorem od_gt : Op2 X (compareOp .Gt) (rI0 fun i j => .bl (decide (j < i))) wGt := ⟨op_gt, ops_ii0 (g := fun i j => .bool (decide (j < i))) fun _ _ => rfl⟩
theorem od_ge : Op2 X (compareOp .GtE) (rI0 fun i j => .bl (decide (j ≤ i))) wGe := ⟨op_ge, ops_ii0 (g := fun i j => .bool (decide (j ≤ i))) fun _ _ => rfl⟩
theorem od_add : Op2 X (binaryOp .Add) (rAdd X.K) wAdd := ⟨op_add.or (op_add_str.or (op_catA.or op_cat)), ops_add⟩
/-- <, <= of ints, of texts -/
def wLt : W2 := fun x _ y _ P => match x, y with
  | .int i, .int j => P (atom (.bool (decide (i < j))))
  | .str i, .str j => P (atom (.bool (decide (i.cps.toList < j.cps.toList))))
  | _, _ => False
def wLe : W2 := fun x _ y _ P => match x, y with
  | .int i, .int j => P (atom (.bool (decide (i ≤ j))))
  | .str i, .str j => P (atom (.bool (!decide (j.cps.toList < i.cps.toList))))
  | _, _ => False
theorem od_lt : Op2 X (compareOp .Lt) rLt_ wLt := ⟨op_lt.or op_lt_str, ⟨fun W ρ σ H H1 x y dx dy fx fy P Q S s ex ey h q => by
  cases dx with
  | int i =>
    cases dy with
    | int j =>
      cases ER.flat S s rfl ex
      cases ER.flat S s rfl ey
      exact .inl ⟨i, j, rfl, rfl, q _ _ H1 (Bu.refl _ _) er_bl h⟩
    | _ => exact h.elim
  | str i =>
    cases dy with
    | str j =>
      cases ER.flat S s rfl ex
      cases ER.flat S s rfl ey
      exact .inr ⟨i, j, rfl, rfl, q _ _ H1 (Bu.refl _ _) er_bl h⟩
    | _ => exact h.elim
  | _ => exact h.elim⟩⟩
theorem od_le : Op2 X (compareOp .LtE) rLe_ wLe := ⟨op_le.or op_le_str, ⟨fun W ρ σ H H1 x y dx dy fx fy P Q S s ex ey h q => by
  cases dx with
  | int i =>
    cases dy with
    | int j =>
      cases ER.flat S s rfl ex
      cases ER.flat S s rfl ey
      exact .inl ⟨i, j, rfl, rfl, q _ _ H1 (Bu.refl _ _) er_bl h⟩
    | _ => exact h.elim
  | str i =>
    cases dy with
    | str j =>
      cases ER.flat S s rfl ex
      cases ER.flat S s rfl ey
      exact .inr ⟨i, j, rfl, rfl, q _ _ H1 (Bu.refl _ _) er_bl h⟩
    | _ => exact h.elim
  | _ => exact h.elim⟩⟩
/-- ==, != : flat values, any shaped ones -/
def scalX : PyData → PyData → Bool
  | .none, .none => true
  | .int _, .int _ => true
  | .str _, .str _ => true
  | .bool _, .bool _ => true
  | _, _ => false
def eqX (x y : PyData) (k : Bool → Prop) : Prop := match x, y with
  | .int i, .int j => k (decide (i = j))
  | .str i, .str j => k (decide (i = j))
  | .bool i, .bool j => k (decide (i = j))
  | x, y => SeqAt.shaped x = true ∧ SeqAt.shaped y = true ∧ k (PyData.eqv x y)
def wEq : W2 := fun x _ y _ P => eqX x y fun b => P (atom (.bool b))
def wNe : W2 := fun x _ y _ P => eqX x y fun b => P (atom (.bool !b))
theorem eqX_cases {x y : PyData} {k : Bool → Prop} (h : eqX x y k) : (∃ i j, x = .int i ∧ y = .int j ∧ k (decide (i = j))) ∨ (∃ i j, x = .str i ∧ y = .str j ∧ k (decide (i = j))) ∨ (∃ i j, x = .bool i ∧ y = .bool j ∧ k (decide (i = j))) ∨ (SeqAt.shaped x = true ∧ SeqAt.shaped y = true ∧ k (PyData.eqv x y)) := by
  unfold eqX at h
  split at h
  · exact .inl ⟨_, _, rfl, rfl, h⟩
  · exact .inr (.inl ⟨_, _, rfl, rfl, h⟩)
  · exact .inr (.inr (.inl ⟨_, _, rfl, rfl, h⟩))
  · exact .inr (.inr (.inr h))
theorem dec_vi {i j : Int} : decide (flatV_ (.int i) = flatV_ (.int j)) = decide (i = j) := by
  show decide (V.int i = V.int j) = decide (i = j)
  by_cases h : i = j
  · simp [h]
  · simp [h]
theorem dec_vs {i j : Str} : decide (flatV_ (.str i) = flatV_ (.str j)) = decide (i = j) := by
  show decide (V.str i = V.str j) = decide (i = j)
  by_cases h : i = j
  · simp [h]
  · simp [h]
theorem dec_vb {i j : Bool} : decide (flatV_ (.bool i) = flatV_ (.bool j)) = decide (i = j) := by
  show decide (V.bl i = V.bl j) = decide (i = j)
  by_cases h : i = j
  · simp [h]
  · simp [h]
theorem od_eq (room : X.A.units + 64 < cLine) : Op2 X (compareOp .Eq) (rEq_ X.K) wEq := ⟨op_eq.or (op_eqG room), ⟨fun W ρ σ H H1 x y dx dy fx fy P Q S s ex ey h q => by
  rcases eqX_cases h with ⟨i, j, rfl, rfl, p⟩ | ⟨i, j, rfl, rfl, p⟩ | ⟨i, j, rfl, rfl, p⟩ | ⟨a, b, p⟩
  · cases ER.flat S s rfl ex
    cases ER.flat S s rfl ey
    exact .inl ⟨rfl, q _ _ H1 (Bu.refl _ _) er_bl (by rw [dec_vi]; exact p)⟩
  · cases ER.flat S s rfl ex
    cases ER.flat S s rfl ey
    exact .inl ⟨rfl, q _ _ H1 (Bu.refl _ _) er_bl (by rw [dec_vs]; exact p)⟩
  · cases ER.flat S s rfl ex
    cases ER.flat S s rfl ey
    exact .inl ⟨rfl, q _ _ H1 (Bu.refl _ _) er_bl (by rw [dec_vb]; exact p)⟩
  · exact .inr ⟨dx, dy, Dat.up res_sub (ER.wk S s ex), Dat.up res_sub (ER.wk S s ey), a, b, q _ _ H1 (Bu.refl _ _) er_bl p⟩⟩⟩
theorem od_ne (room : X.A.units + 64 < cLine) : Op2 X (compareOp .NotEq) (rNe_ X.K) wNe := ⟨op_ne.or (op_neG room), ⟨fun W ρ σ H H1 x y dx dy fx fy P Q S s ex ey h q => by
  rcases eqX_cases h with ⟨i, j, rfl, rfl, p⟩ | ⟨i, j, rfl, rfl, p⟩ | ⟨i, j, rfl, rfl, p⟩ | ⟨a, b, p⟩
  · cases ER.flat S s rfl ex
    cases ER.flat S s rfl ey
    exact .inl ⟨rfl, q _ _ H1 (Bu.refl _ _) er_bl (by rw [dec_vi]; exact p)⟩
  · cases ER.flat S s rfl ex
    cases ER.flat S s rfl ey
    exact .inl ⟨rfl, q _ _ H1 (Bu.refl _ _) er_bl (by rw [dec_vs]; exact p)⟩
  · cases ER.flat S s rfl ex
    cases ER.flat S s rfl ey
    exact .inl ⟨rfl, q _ _ H1 (Bu.refl _ _) er_bl (by rw [dec_vb]; exact p)⟩
  · exact .inr ⟨dx, dy, Dat.up res_sub (ER.wk S s ex), Dat.up res_sub (ER.wk S s ey), a, b, q _ _ H1 (Bu.refl _ _) er_bl p⟩⟩⟩
/-- in, not in: flat values -/
def inX (x : PyData) (ds : List PyData) : Bool := inV (flatV_ x) (ds.map flatV_)
def wIn (neg : Bool) : W2 := fun x _ y _ P => match y with
  | .list ds => flatX x = true ∧ ds.all flatX = true ∧ P (atom (.bool (if neg then !inX x ds else inX x ds)))
  | .tuple ds => flatX x = true ∧ ds.all flatX = true ∧ P (atom (.bool (if neg then !inX x ds else inX x ds)))
  | _ => False
theorem flatV_is {x : PyData} (h : flatX x = true) : flatV (flatV_ x) = true := by
  cases x <;> first | rfl | cases h
theorem dats_flat {F : Hp} : ∀ {vs : List V} {ds : List PyData}, ds.all flatX = true → DatAll K F vs ds → vs = ds.map flatV_
  | _, _, _, .nil => rfl
  | _, _, h, .cons a r => by
    rw [List.all_cons, Bool.and_eq_true] at h
    rw [List.map_cons, dat_flat h.1 a, dats_flat h.2 r]
theorem all_flatV {ds : List PyData} (h : ds.all flatX = true) : (ds.map flatV_).all flatV = true := by
  rw [List.all_map]
  exact List.all_eq_true.mpr fun x m => flatV_is (List.all_eq_true.mp h x m)
theorem ops_in {neg : Bool} : OpS K (rIn K neg) (wIn neg) := ⟨fun W ρ σ H H1 x y dx dy fx fy P Q S s ex ey h q => by
  cases dy with
  | list ds =>
    obtain ⟨fl, fls, p⟩ := h
    obtain ⟨a, xs, rfl, sq, w, g⟩ := ER.lst S s ey
    have e := dats_flat fls w
    subst e
    cases ER.flat S s fl ex
    exact ⟨a, _, rfl, .inl sq, flatV_is fl, all_flatV fls, q _ _ H1 (Bu.refl _ _) er_bl p⟩
  | tuple ds =>
    obtain ⟨fl, fls, p⟩ := h
    obtain ⟨a, xs, rfl, sq, w, g⟩ := ER.tup S s ey
    have e := dats_flat fls w
    subst e
    cases ER.flat S s fl ex
    exact ⟨a, _, rfl, .inr sq, flatV_is fl, all_flatV fls, q _ _ H1 (Bu.refl _ _) er_bl p⟩
  | _ => exact h.elim⟩
theorem od_in : Op2 X (compareOp .In) (rIn X.K false) (wIn false) := ⟨op_in_seq, ops_in⟩
theorem od_notIn : Op2 X (compareOp .NotIn) (rIn X.K true) (wIn true) := ⟨op_notIn_seq, ops_in⟩
/-- * : ints, tuples -/
def wMul : W2 := fun x f y _ P => match x, y with
  | .int i, .int j => CMul i j ∧ P (atom (.int (i * j)))
  | .tuple ds, .int k => ds ≠ [] ∧ 0 ≤ k ∧ k ≤ 1000 ∧ ds.length ≤ 1000 ∧ P (.d (.tuple (List.replicate k.toNat ds).flatten) (flIf (f.parts || pures ds) .gd))
  | .str z, .int k => k = 2 ∧ z.length ≤ 400000 ∧ ∀ z2 : Str, z2.cps.toList = z.cps.toList ++ z.cps.toList → P (atom (.str z2))
  | _, _ => False
theorem dats_rep {F : Hp} {vs : List V} {ds : List PyData} (h : DatAll K F vs ds) : ∀ k : Nat, DatAll K F (List.replicate k vs).flatten (List.replicate k ds).flatten
  | 0 => .nil
  | k + 1 => by
    have ih := dats_rep h k
    rw [List.replicate_succ, List.replicate_succ, List.flatten_cons, List.flatten_cons]
    exact dats_app h ih
theorem er_same {ds : List PyData} {b : Bool} {a : Addr} {xs : List V} (sq : SqT K (res (okw W) H1) a xs) (sg : SqT K (res (okg W ρ σ) H1) a xs) (w : DatAll K (res (okw W) H1) xs ds) (g : b = true → DatAll K (res (okg W ρ σ) H1) xs ds) : ER K W ρ σ H H1 (.ref a) (.d (.tuple ds) (flIf b .gd)) := by
  cases b with
  | true => exact Dat.tup sg (g rfl)
  | false => exact Dat.tup sq w
theorem od_mul : Op2 X (binaryOp .Mult) (rMul X.K) wMul := ⟨op_mul.or (op_repS.or op_strTwice), ⟨fun W ρ σ H H1 x y dx dy fx fy P Q S s ex ey h q => by
  cases dx with
  | int i =>
    cases dy with
    | int j =>
      cases ER.flat S s rfl ex
      cases ER.flat S s rfl ey
      exact .inl ⟨i, j, rfl, rfl, h.1, q _ _ H1 (Bu.refl _ _) er_int h.2⟩
    | _ => exact h.elim
  | str z =>
    cases dy with
    | int j =>
      obtain ⟨rfl, few, p⟩ := h
      cases ER.flat S s rfl ex
      cases ER.flat S s rfl ey
      exact .inr (.inr ⟨z, rfl, rfl, by omega, fun z2 e => q _ _ H1 (Bu.refl _ _) er_str (p z2 e)⟩)
    | _ => exact h.elim
  | tuple ds =>
    cases dy with
    | int j =>
      obtain ⟨ne, j0, j1, few, p⟩ := h
      cases ER.flat S s rfl ey
      have wx := ER.wk S s ex
      obtain ⟨a, xs, rfl, sq, w, g⟩ := ER.tup S s ex
      have l1 := dats_len w
      obtain ⟨k, rfl⟩ := Int.eq_ofNat_of_zero_le j0
      refine .inr (.inl ⟨a, k, xs, rfl, rfl, sq, (fun z => ?_), by omega, by omega, ?_⟩)
      · rw [z] at l1
        exact ne (List.eq_nil_of_length_eq_zero l1.symm)
      · by_cases k1 : k = 1
        · subst k1
          refine .inl ⟨rfl, q _ _ H1 (Bu.refl _ _) (er_of (b := fx.parts || pures ds) (x := .tuple (List.replicate 1 ds).flatten) ?_ fun z => ?_) p⟩
          · have e1 : (List.replicate 1 ds).flatten = ds := by simp
            rw [e1]
            exact wx
          · have e1 : (List.replicate 1 ds).flatten = ds := by simp
            rw [e1]
            cases fx with
            | gd => exact ex
            | fr => exact (ER.gd S s ex rfl)
            | ow => obtain ⟨_, _, _, no⟩ := ex; exact no.elim
            | wk => exact ER.gd S s ex (by simpa [Fl.parts, Fl.good, pure_] using z)
        · refine .inr ⟨k1, fun p2 np => q _ _ _ (Bu.of (same_new np)) (er_tup S s np (dats_rep w k) fun z => dats_rep (g z) k) p⟩
    | _ => exact h.elim
  | _ => exact h.elim⟩⟩
/-! ### one value -/
def dNeg (w : DE) : DE := fun ρ P => w ρ fun r => onD r fun x _ => match x with
  | .int i => P (atom (.int (-i)))
  | _ => False
theorem pd_neg {a : Expr} {pos : Pos} {w : DE} (h : PD X a te w) : PD X (.UnaryOp .USub a pos) (tUn (rU fun i => .int (-i)) te) (dNeg w) := by
  obtain ⟨a1, b1⟩ := h
  refine ⟨pe_un un_neg a1, ⟨fun W ρ σ H P Q S hw q => ?_⟩⟩
  refine b1.go W ρ σ H _ _ S hw fun r v H1 s1 e1 p1 => ?_
  cases r with
  | bag => exact p1.elim
  | d x f =>
    cases x with
    | int i =>
      cases ER.flat S s1 rfl e1
      exact ⟨i, rfl, q _ _ H1 s1 er_int p1⟩
    | _ => exact p1.elim
def noneX : PyData → Bool
  | .none => true
  | _ => false
theorem none_v {F : Hp} {x : PyData} (d : Dat K F v x) : decide (v = V.non) = noneX x := by
  cases d <;> simp [noneX]
def dIsN (w : DE) : DE := fun ρ P => w ρ fun r => onD r fun x _ => P (atom (.bool (noneX x)))
def dNotN (w : DE) : DE := fun ρ P => w ρ fun r => onD r fun x _ => P (atom (.bool !(noneX x)))
theorem pd_isN {a : Expr} {pos pos' : Pos} {j} {w : DE} (h : PD X a te w) : PD X (.Compare a [.Is] [.Constant .none j pos'] pos) (tIsN te) (dIsN w) := by
  obtain ⟨a1, b1⟩ := h
  refine ⟨pe_cmp (pc_isN a1), ⟨fun W ρ σ H P Q S hw q => ?_⟩⟩
  refine b1.go W ρ σ H _ _ S hw fun r v H1 s1 e1 p1 => ?_
  cases r with
  | bag => exact p1.elim
  | d x f => exact q _ _ H1 s1 (by rw [none_v (ER.wk S s1 e1)]; exact er_bl) p1
theorem pd_notN {a : Expr} {pos pos' : Pos} {j} {w : DE} (h : PD X a te w) : PD X (.Compare a [.IsNot] [.Constant .none j pos'] pos) (tNotN te) (dNotN w) := by
  obtain ⟨a1, b1⟩ := h
  refine ⟨pe_cmp (pc_notN a1), ⟨fun W ρ σ H P Q S hw q => ?_⟩⟩
  refine b1.go W ρ σ H _ _ S hw fun r v H1 s1 e1 p1 => ?_
  cases r with
  | bag => exact p1.elim
  | d x f => exact q _ _ H1 s1 (by rw [none_v (ER.wk S s1 e1)]; exact er_bl) p1
theorem pdt_isN {a : Expr} {pos pos' : Pos} {j} {w : DE} (h : PD X a te w) : PDT X (.Compare a [.Is] [.Constant .none j pos'] pos) (tB (tIsN te)) (dTest (dIsN w)) := by
  obtain ⟨a1, b1⟩ := h
  refine ⟨pt_cmp (pc_isN a1), ⟨fun W ρ σ H P Q S hw q => ?_⟩⟩
  refine b1.go W ρ σ H _ _ S hw fun r v H1 s1 e1 p1 => ?_
  cases r with
  | bag => exact p1.elim
  | d x f => exact ⟨noneX x, by rw [none_v (ER.wk S s1 e1)], q _ H1 s1 p1⟩
theorem pdt_notN {a : Expr} {pos pos' : Pos} {j} {w : DE} (h : PD X a te w) : PDT X (.Compare a [.IsNot] [.Constant .none j pos'] pos) (tB (tNotN te)) (dTest (dNotN w)) := by
  obtain ⟨a1, b1⟩ := h
  refine ⟨pt_cmp (pc_notN a1), ⟨fun W ρ σ H P Q S hw q => ?_⟩⟩
  refine b1.go W ρ σ H _ _ S hw fun r v H1 s1 e1 p1 => ?_
  cases r with
  | bag => exact p1.elim
  | d x f => exact ⟨!(noneX x), by rw [none_v (ER.wk S s1 e1)], q _ H1 s1 p1⟩
/-! ### subscripts, slices -/
theorem pd_ix {a b : Expr} {pos : Pos} {wa wb : DE} (h1 : PD X a ta wa) (h2 : PD X b tb wb) (hs : PlainIx b := by exact fun _ _ => rfl) : PD X (.Subscript a b pos) (tOp (fun x y H Q => rIxT X.K x y H Q ∨ rIxL X.K x y H Q) ta tb) (dOp wIx wa wb) := by
  obtain ⟨a1, b1⟩ := h1
  obtain ⟨a2, b2⟩ := h2
  exact ⟨pe_ix (ix_tup.or ix_list) a1 a2 hs, snd_op ops_ix b1 b2⟩
def cutD (ds : List PyData) (lo hi : Option Int) : List PyData := (ds.drop (HT.sIx ds.length 0 lo)).take (HT.sIx ds.length ds.length hi - HT.sIx ds.length 0 lo)
abbrev DO := Ro → (Option Int → Prop) → Prop
structure SndO (K : PySem.W.Frag) (t : TO) (w : DO) : Prop where
  go : ∀ (W : Wd) (ρ : Ro) (σ : L2.St) (H : Hp) (P : Option Int → Prop) (Q : Option Int → Hp → Prop), Sim K W ρ σ H → w ρ P → (∀ o H1, Bu W.β H H1 → P o → Q o H1) → t σ H Q
structure PDO (X : Cx) (e : Option Expr) (t : TO) (w : DO) : Prop where
  po : PO X e t
  snd : SndO X.K t w
def dNo : DO := fun _ P => P none
def dSome (w : DE) : DO := fun ρ P => w ρ fun r => onD r fun x _ => match x with
  | .int i => P (some i)
  | _ => False
theorem pdo_none : PDO X none tNoPart dNo := ⟨po_none, ⟨fun W ρ σ H P Q S h q => q _ H (Bu.refl _ _) h⟩⟩
theorem pdo_some {e : Expr} {w : DE} (h : PD X e te w) : PDO X (some e) (tPart te) (dSome w) := by
  obtain ⟨a1, b1⟩ := h
  refine ⟨po_some a1, ⟨fun W ρ σ H P Q S hw q => ?_⟩⟩
  refine b1.go W ρ σ H _ _ S hw fun r v H1 s1 e1 p1 => ?_
  cases r with
  | bag => exact p1.elim
  | d x f =>
    cases x with
    | int i =>
      cases ER.flat S s1 rfl e1
      exact ⟨i, rfl, q _ H1 s1 p1⟩
    | _ => exact p1.elim
def wCut (x : PyData) (f : Fl) (lo hi : Option Int) (P : DK) : Prop := match x with
  | .tuple ds => P (.d (.tuple (cutD ds lo hi)) (flIf (goodF f x) .gd))
  | .list ds => P (.d (.list (cutD ds lo hi)) (flIf (f.parts || pures ds) .fr))
  | _ => False
def dCut (w : DE) (l h : DO) : DE := fun ρ P => w ρ fun r => onD r fun x f => l ρ fun lo => h ρ fun hi => wCut x f lo hi P
theorem dats_drop {F : Hp} : ∀ {vs : List V} {ds : List PyData} (n : Nat), DatAll K F vs ds → DatAll K F (vs.drop n) (ds.drop n)
  | _, _, 0, h => h
  | _, _, n + 1, .nil => .nil
  | _, _, n + 1, .cons _ r => dats_drop n r
theorem dats_take {F : Hp} : ∀ {vs : List V} {ds : List PyData} (n : Nat), DatAll K F vs ds → DatAll K F (vs.take n) (ds.take n)
  | _, _, 0, _ => .nil
  | _, _, n + 1, .nil => .nil
  | _, _, n + 1, .cons a r => .cons a (dats_take n r)
theorem dats_cut {F : Hp} {vs : List V} {ds : List PyData} (lo hi : Option Int) (h : DatAll K F vs ds) : DatAll K F (cutV vs lo hi) (cutD ds lo hi) := by
  unfold cutV cutD
  rw [dats_len h]
  exact dats_take _ (dats_drop _ h)
theorem pd_cut {e : Expr} {lo hi : Option Expr} {p2 pos : Pos} {w : DE} {l h : DO} (h1 : PD X e te w) (h2 : PDO X lo tl l) (h3 : PDO X hi th h) : PD X (.Subscript e (.Slice lo hi none p2) pos) (L2.tSl (fun x lo hi H Q => rSlA X.K x lo hi H Q ∨ rSlL X.K x lo hi H Q) te tl th) (dCut w l h) := by
  obtain ⟨a1, b1⟩ := h1
  obtain ⟨a2, b2⟩ := h2
  obtain ⟨a3, b3⟩ := h3
  refine ⟨pe_slice (sl_tupA.or sl_list) a1 a2 a3, ⟨fun W ρ σ H P Q S hw q => ?_⟩⟩
  refine b1.go W ρ σ H _ _ S hw fun r v H1 s1 e1 p1 => ?_
  cases r with
  | bag => exact p1.elim
  | d x f =>
    refine b2.go W ρ σ H1 _ _ (S.step s1) p1 fun lo H2 s2 p2 => b3.go W ρ σ H2 _ _ (S.step (s1.trans s2)) p2 fun hi H3 s3 p3 => ?_
    have s := (s1.trans s2).trans s3
    have e3 := e1.step (s2.trans s3) S.now s1
    cases x with
    | tuple ds =>
      have wx := ER.wk S s e3
      obtain ⟨a, xs, rfl, sq, w, g⟩ := ER.tup S s e3
      have l1 := dats_len w
      refine .inl ⟨a, xs, rfl, sq, fun whole => ?_, fun _ p np => ?_⟩
      · have e : cutD ds lo hi = ds := by
          unfold cutD
          rw [← l1, whole.1, whole.2, List.drop_zero]
          exact List.take_of_length_le (by omega)
        refine q _ _ H3 s (er_of (b := goodF f (.tuple ds)) (x := .tuple (cutD ds lo hi)) (by rw [e]; exact wx) fun z => by rw [e]; exact ER.gd S s e3 z) p3
      · exact q _ _ _ (s.trans (Bu.of (same_new np))) (er_tup S s np (dats_cut lo hi w) fun z => dats_cut lo hi (g (good_parts z))) p3
    | list ds =>
      obtain ⟨a, xs, rfl, sq, w, g⟩ := ER.lst S s e3
      exact .inr ⟨a, xs, rfl, sq, fun p np => q _ _ _ (s.trans (Bu.of (same_new np))) (er_lst S s np (dats_cut lo hi w) fun z => dats_cut lo hi (g z)) p3⟩
    | _ => exact p3.elim
/-- t[::-1] -/
def dRev (w : DE) : DE := fun ρ P => w ρ fun r => onD r fun x f => match x with
  | .tuple ds => P (.d (.tuple ds.reverse) (flIf (f.parts || pures ds) .gd))
  | _ => False
theorem dats_rev {F : Hp} : ∀ {vs : List V} {ds : List PyData}, DatAll K F vs ds → DatAll K F vs.reverse ds.reverse
  | _, _, .nil => .nil
  | _, _, .cons a r => by
    rw [List.reverse_cons, List.reverse_cons]
    exact dats_app (dats_rev r) (.cons a .nil)
theorem pd_rev {e : Expr} {k : Nat} {p1 p2 p3 pos : Pos} {w : DE} (h : PD X e te w) : PD X (.Subscript e (.Slice none none (some (.UnaryOp .USub (.Constant (.int 1) k p1) p2)) p3) pos) (tRevT X.K te) (dRev w) := by
  obtain ⟨a1, b1⟩ := h
  refine ⟨pe_revT a1, ⟨fun W ρ σ H P Q S hw q => ?_⟩⟩
  refine b1.go W ρ σ H _ _ S hw fun r v H1 s1 e1 p1 => ?_
  cases r with
  | bag => exact p1.elim
  | d x f =>
    cases x with
    | tuple ds =>
      obtain ⟨a, xs, rfl, sq, w, g⟩ := ER.tup S s1 e1
      exact ⟨a, xs, rfl, sq, fun p np => q _ _ _ (s1.trans (Bu.of (same_new np))) (er_tup S s1 np (dats_rev w) fun z => dats_rev (g z)) p1⟩
    | _ => exact p1.elim
end
end Pd

/-! D5: calls: builtins, defs by data -/
namespace Pd
open PySem PySem.Spec PyProof.Rows L2 Vd
open Classical
abbrev WC := List Dv → DK → Prop
structure CallS (K : PySem.W.Frag) (r : List V → Hp → VK → Prop) (w : WC) : Prop where
  go : ∀ (W : Wd) (ρ : Ro) (σ : L2.St) (H H1 : Hp) (vs : List V) (rs : List Dv) (P : DK) (Q : VK), Sim K W ρ σ H → Bu W.β H H1 → ERs K W ρ σ H H1 vs rs → w rs P →
    (∀ r v H2, Bu W.β H1 H2 → ER K W ρ σ H H2 v r → P r → Q v H2) → r vs H1 Q
def dCall (wc : WC) (wa : DA) : DE := fun ρ P => wa ρ fun rs => wc rs P
theorem snd_cb {K : PySem.W.Frag} {r : List V → Hp → VK → Prop} {ta : TA} {wc : WC} {wa : DA} (c : CallS K r wc) (h : SndA K ta wa) : Snd K (tCB r ta) (dCall wc wa) := ⟨fun W ρ σ H P Q S hw q =>
  h.go W ρ σ H _ _ S hw fun rs vs H1 s1 e1 p1 => c.go W ρ σ H H1 vs rs P Q S s1 e1 p1 fun r v H2 s2 e2 p2 => q r v H2 (s1.trans s2) e2 p2⟩
section
variable {X : Cx} {x : Str} {p pos : Pos} {e : Expr} {es : List Expr} {ta : TA} {id T : String} {r : List V → Hp → VK → Prop} {wc : WC} {wa : DA}
theorem pd_callB (hc : CallR X (.builtin id) r) (hs : CallS X.K r wc) (hg : Gl X x) (hm : X.mg x = none) (hv : bootBuiltins x = some (.builtin id)) (ha : PDA X (e :: es) ta wa) (hn : x ≠ "__name__" := by decide) (hdb : (x == ("__debug__" : Str)) = false := by decide)
    (he : starEach (e :: es) X.env = (false, eval e X.env) :: starEach es X.env := by rfl) (hpl : (backTo pos (starEach es X.env)).any (·.1) = false := by rfl) : PD X (.Call (.Name x p) (e :: es) [] pos) (tCB r ta) (dCall wc wa) := ⟨pe_callB hc hg hm hv ha.pa hn hdb he hpl, snd_cb hs ha.snd⟩
theorem pd_callT (hc : CallR X (.type T) r) (hs : CallS X.K r wc) (hg : Gl X x) (hm : X.mg x = none) (hv : bootBuiltins x = some (.type T)) (ha : PDA X (e :: es) ta wa) (hn : x ≠ "__name__" := by decide) (hdb : (x == ("__debug__" : Str)) = false := by decide)
    (he : starEach (e :: es) X.env = (false, eval e X.env) :: starEach es X.env := by rfl) (hpl : (backTo pos (starEach es X.env)).any (·.1) = false := by rfl) : PD X (.Call (.Name x p) (e :: es) [] pos) (tCB r ta) (dCall wc wa) := ⟨pe_callTy hc hg hm hv ha.pa hn hdb he hpl, snd_cb hs ha.snd⟩
end
section
variable {K : PySem.W.Frag} {W : Wd} {ρ : Ro} {σ : L2.St} {H H1 H2 : Hp} {v : V}
theorem one_of {vs : List V} {r : Dv} (h : ERs K W ρ σ H H1 vs [r]) : ∃ v, vs = [v] ∧ ER K W ρ σ H H1 v r := by
  cases h with
  | cons a _ b => cases b; exact ⟨_, rfl, a⟩
theorem two_of_ {vs : List V} {r1 r2 : Dv} (h : ERs K W ρ σ H H1 vs [r1, r2]) : ∃ v u, vs = [v, u] ∧ ER K W ρ σ H H1 v r1 ∧ ER K W ρ σ H H1 u r2 := by
  cases h with
  | cons a _ b => obtain ⟨u, rfl, c⟩ := one_of b; exact ⟨_, u, rfl, a, c⟩
def w1 (k : PyData → Fl → DK → Prop) : WC := fun rs P => match rs with
  | [.d x f] => k x f P
  | _ => False
theorem w1_of {k : PyData → Fl → DK → Prop} {rs : List Dv} {P : DK} (h : w1 k rs P) : ∃ x f, rs = [.d x f] ∧ k x f P := by
  unfold w1 at h
  split at h
  · exact ⟨_, _, rfl, h⟩
  · exact h.elim
def w2 (k : PyData → PyData → DK → Prop) : WC := fun rs P => match rs with
  | [.d x _, .d y _] => k x y P
  | _ => False
theorem w2_of {k : PyData → PyData → DK → Prop} {rs : List Dv} {P : DK} (h : w2 k rs P) : ∃ x f y g, rs = [.d x f, .d y g] ∧ k x y P := by
  unfold w2 at h
  split at h
  · exact ⟨_, _, _, _, rfl, h⟩
  · exact h.elim
/-- len -/
def wLen : WC := w1 fun x _ P => match x with
  | .list ds => P (atom (.int ds.length))
  | .tuple ds => P (atom (.int ds.length))
  | .str z => z.length ≤ 1000000 ∧ P (atom (.int z.length))
  | _ => False
theorem cs_len : CallS K (fun xs H Q => (∃ p ys, xs = [.ref p] ∧ (SqL K H p ys ∨ SqT K H p ys) ∧ Q (.int ys.length) H) ∨ ∃ z, xs = [.str z] ∧ z.length ≤ sizeLine ∧ Q (.int z.length) H) wLen := ⟨fun W ρ σ H H1 vs rs P Q S s es h q => by
  obtain ⟨x, f, rfl, h⟩ := w1_of h
  obtain ⟨v, rfl, e⟩ := one_of es
  cases x with
  | list ds =>
    obtain ⟨a, xs, rfl, sq, w, g⟩ := ER.lst S s e
    exact .inl ⟨a, xs, rfl, .inl sq, q _ _ H1 (Bu.refl _ _) er_int (by rw [dats_len w]; exact h)⟩
  | tuple ds =>
    obtain ⟨a, xs, rfl, sq, w, g⟩ := ER.tup S s e
    exact .inl ⟨a, xs, rfl, .inr sq, q _ _ H1 (Bu.refl _ _) er_int (by rw [dats_len w]; exact h)⟩
  | str z =>
    cases ER.flat S s rfl e
    exact .inr ⟨z, rfl, len_line h.1, q _ _ H1 (Bu.refl _ _) er_int h.2⟩
  | _ => exact h.elim⟩
/-- int -/
def wInt : WC := w1 fun x _ P => match x with
  | .int i => P (atom (.int i))
  | .bool b => P (atom (.int (if b then 1 else 0)))
  | _ => False
theorem cs_int : CallS K (fun xs H Q => (∃ i, xs = [.int i] ∧ Q (.int i) H) ∨ ∃ k, xs = [.bl k] ∧ Q (.int (if k then 1 else 0)) H) wInt := ⟨fun W ρ σ H H1 vs rs P Q S s es h q => by
  obtain ⟨x, f, rfl, h⟩ := w1_of h
  obtain ⟨v, rfl, e⟩ := one_of es
  cases x with
  | int i =>
    cases ER.flat S s rfl e
    exact .inl ⟨i, rfl, q _ _ H1 (Bu.refl _ _) er_int h⟩
  | bool b =>
    cases ER.flat S s rfl e
    exact .inr ⟨b, rfl, q _ _ H1 (Bu.refl _ _) er_int h⟩
  | _ => exact h.elim⟩
/-- str of an int -/
def wStr : WC := w1 fun x _ P => match x with
  | .int i => i.natAbs.log2 < 1920 ∧ P (atom (.str (toString i)))
  | _ => False
theorem cs_str : CallS K (fun xs H Q => ∃ i, xs = [.int i] ∧ i.natAbs.log2 < 1920 ∧ Q (.str (toString i)) H) wStr := ⟨fun W ρ σ H H1 vs rs P Q S s es h q => by
  obtain ⟨x, f, rfl, h⟩ := w1_of h
  obtain ⟨v, rfl, e⟩ := one_of es
  cases x with
  | int i =>
    cases ER.flat S s rfl e
    exact ⟨i, rfl, h.1, q _ _ H1 (Bu.refl _ _) er_str h.2⟩
  | _ => exact h.elim⟩
/-- min, max of two ints -/
def wMin2 : WC := w2 fun x y P => match x, y with
  | .int i, .int j => P (atom (.int (if j < i then j else i)))
  | _, _ => False
def wMax2 : WC := w2 fun x y P => match x, y with
  | .int i, .int j => P (atom (.int (if j > i then j else i)))
  | _, _ => False
theorem cs_min2 : CallS K (fun xs H Q => ∃ i j, xs = [.int i, .int j] ∧ Q (.int (if j < i then j else i)) H) wMin2 := ⟨fun W ρ σ H H1 vs rs P Q S s es h q => by
  obtain ⟨x, f, y, g, rfl, h⟩ := w2_of h
  obtain ⟨v, u, rfl, e1, e2⟩ := two_of_ es
  cases x with
  | int i =>
    cases y with
    | int j =>
      cases ER.flat S s rfl e1
      cases ER.flat S s rfl e2
      exact ⟨i, j, rfl, q _ _ H1 (Bu.refl _ _) er_int h⟩
    | _ => exact h.elim
  | _ => exact h.elim⟩
theorem cs_max2 : CallS K (fun xs H Q => ∃ i j, xs = [.int i, .int j] ∧ Q (.int (if j > i then j else i)) H) wMax2 := ⟨fun W ρ σ H H1 vs rs P Q S s es h q => by
  obtain ⟨x, f, y, g, rfl, h⟩ := w2_of h
  obtain ⟨v, u, rfl, e1, e2⟩ := two_of_ es
  cases x with
  | int i =>
    cases y with
    | int j =>
      cases ER.flat S s rfl e1
      cases ER.flat S s rfl e2
      exact ⟨i, j, rfl, q _ _ H1 (Bu.refl _ _) er_int h⟩
    | _ => exact h.elim
  | _ => exact h.elim⟩
def wAbs : WC := w1 fun x _ P => match x with
  | .int i => P (atom (.int (if i < 0 then -i else i)))
  | _ => False
theorem cs_abs : CallS K (fun xs H Q => ∃ i, xs = [.int i] ∧ Q (.int (if i < 0 then -i else i)) H) wAbs := ⟨fun W ρ σ H H1 vs rs P Q S s es h q => by
  obtain ⟨x, f, rfl, h⟩ := w1_of h
  obtain ⟨v, rfl, e⟩ := one_of es
  cases x with
  | int i =>
    cases ER.flat S s rfl e
    exact ⟨i, rfl, q _ _ H1 (Bu.refl _ _) er_int h⟩
  | _ => exact h.elim⟩
/-- sum of ints -/
def intsOf : List PyData → Option (List Int)
  | [] => some []
  | .int i :: ds => (intsOf ds).map (i :: ·)
  | _ :: _ => none
theorem intsOf_is {F : Hp} : ∀ {vs : List V} {ds : List PyData} {ns : List Int}, intsOf ds = some ns → DatAll K F vs ds → vs = ns.map V.int
  | _, _, _, e, .nil => by cases e; rfl
  | _, d :: ds, _, e, .cons a r => by
    cases d with
    | int i =>
      simp only [intsOf, Option.map_eq_some_iff] at e
      obtain ⟨ms, e1, rfl⟩ := e
      cases a
      rw [intsOf_is e1 r]
      rfl
    | _ => cases e
theorem intsOf_map {α : Type} {f : α → Int} {g : α → PyData} (h : ∀ a, g a = .int (f a)) : ∀ xs : List α, intsOf (xs.map g) = some (xs.map f)
  | [] => rfl
  | x :: xs => by
    rw [List.map_cons, h x]
    simp only [intsOf, intsOf_map h xs, Option.map_some, List.map_cons]
def wSum : WC := w1 fun x _ P => match x with
  | .list ds => ∃ ns, intsOf ds = some ns ∧ P (atom (.int ns.sum))
  | .tuple ds => ∃ ns, intsOf ds = some ns ∧ P (atom (.int ns.sum))
  | _ => False
theorem cs_sum : CallS K (fun vs H Q => rSum K vs H Q ∨ ∃ (a : Addr) (ns : List Int), vs = [V.ref a] ∧ SqT K H a (ns.map V.int) ∧ Q (.int ns.sum) H) wSum := ⟨fun W ρ σ H H1 vs rs P Q S s es h q => by
  obtain ⟨x, f, rfl, h⟩ := w1_of h
  obtain ⟨v, rfl, e⟩ := one_of es
  cases x with
  | list ds =>
    obtain ⟨ns, e1, h⟩ := h
    obtain ⟨a, xs, rfl, sq, w, g⟩ := ER.lst S s e
    cases intsOf_is e1 w
    exact .inl ⟨a, ns, rfl, sq, q _ _ H1 (Bu.refl _ _) er_int h⟩
  | tuple ds =>
    obtain ⟨ns, e1, h⟩ := h
    obtain ⟨a, xs, rfl, sq, w, g⟩ := ER.tup S s e
    cases intsOf_is e1 w
    exact .inr ⟨a, ns, rfl, sq, q _ _ H1 (Bu.refl _ _) er_int h⟩
  | _ => exact h.elim⟩
/-- all of a list of truths -/
def boolsOf : List PyData → Option (List Bool)
  | [] => some []
  | .bool i :: ds => (boolsOf ds).map (i :: ·)
  | _ :: _ => none
theorem boolsOf_is {F : Hp} : ∀ {vs : List V} {ds : List PyData} {ns : List Bool}, boolsOf ds = some ns → DatAll K F vs ds → vs = ns.map V.bl
  | _, _, _, e, .nil => by cases e; rfl
  | _, d :: ds, _, e, .cons a r => by
    cases d with
    | bool i =>
      simp only [boolsOf, Option.map_eq_some_iff] at e
      obtain ⟨ms, e1, rfl⟩ := e
      cases a
      rw [boolsOf_is e1 r]
      rfl
    | _ => cases e
theorem boolsOf_map {α : Type} {f : α → Bool} {g : α → PyData} (h : ∀ a, g a = .bool (f a)) : ∀ xs : List α, boolsOf (xs.map g) = some (xs.map f)
  | [] => rfl
  | x :: xs => by
    rw [List.map_cons, h x]
    simp only [boolsOf, boolsOf_map h xs, Option.map_some, List.map_cons]
def wAll : WC := w1 fun x _ P => match x with
  | .list ds => ∃ bs, boolsOf ds = some bs ∧ P (atom (.bool (bs.all _root_.id)))
  | _ => False
theorem cs_all : CallS K (rAll K) wAll := ⟨fun W ρ σ H H1 vs rs P Q S s es h q => by
  obtain ⟨x, f, rfl, h⟩ := w1_of h
  obtain ⟨v, rfl, e⟩ := one_of es
  cases x with
  | list ds =>
    obtain ⟨ns, e1, h⟩ := h
    obtain ⟨a, xs, rfl, sq, w, g⟩ := ER.lst S s e
    cases boolsOf_is e1 w
    exact ⟨a, ns, rfl, sq, q _ _ H1 (Bu.refl _ _) er_bl h⟩
  | _ => exact h.elim⟩
/-- tuple, list -/
def wTuple : WC := w1 fun x f P => match x with
  | .list ds => P (.d (.tuple ds) (flIf (f.parts || pures ds) .gd))
  | .tuple ds => P (.d (.tuple ds) (flIf (goodF f x) .gd))
  | _ => False
theorem cs_tuple : CallS K (fun xs H Q => ∃ p ys, xs = [.ref p] ∧ ((SqL K H p ys ∧ ∀ l, H l = none → Q (.ref l) (upd H l (.tup ys))) ∨ (SqT K H p ys ∧ Q (.ref p) H))) wTuple := ⟨fun W ρ σ H H1 vs rs P Q S s es h q => by
  obtain ⟨x, f, rfl, h⟩ := w1_of h
  obtain ⟨v, rfl, e⟩ := one_of es
  cases x with
  | list ds =>
    obtain ⟨a, xs, rfl, sq, w, g⟩ := ER.lst S s e
    exact ⟨a, xs, rfl, .inl ⟨sq, fun l nl => q _ _ _ (Bu.of (same_new nl)) (er_tup S s nl w g) h⟩⟩
  | tuple ds =>
    have wx := ER.wk S s e
    have gx := ER.gd S s e
    obtain ⟨a, xs, rfl, sq, w, g⟩ := ER.tup S s e
    exact ⟨a, xs, rfl, .inr ⟨sq, q _ _ H1 (Bu.refl _ _) (er_of wx gx) h⟩⟩
  | _ => exact h.elim⟩
def wList : WC := w1 fun x f P => match x with
  | .list ds => P (.d (.list ds) (flIf (f.parts || pures ds) .fr))
  | .tuple ds => P (.d (.list ds) (flIf (f.parts || pures ds) .fr))
  | _ => False
theorem cs_list : CallS K (fun xs H Q => ∃ p ys, xs = [.ref p] ∧ (SqL K H p ys ∨ SqT K H p ys) ∧ ∀ l, H l = none → Q (.ref l) (upd H l (.lst ys))) wList := ⟨fun W ρ σ H H1 vs rs P Q S s es h q => by
  obtain ⟨x, f, rfl, h⟩ := w1_of h
  obtain ⟨v, rfl, e⟩ := one_of es
  cases x with
  | list ds =>
    obtain ⟨a, xs, rfl, sq, w, g⟩ := ER.lst S s e
    exact ⟨a, xs, rfl, .inl sq, fun l nl => q _ _ _ (Bu.of (same_new nl)) (er_lst S s nl w g) h⟩
  | tuple ds =>
    obtain ⟨a, xs, rfl, sq, w, g⟩ := ER.tup S s e
    exact ⟨a, xs, rfl, .inr sq, fun l nl => q _ _ _ (Bu.of (same_new nl)) (er_lst S s nl w g) h⟩
  | _ => exact h.elim⟩
/-- repr -/
def wRepr : WC := w1 fun x _ P => Shows x ∧ x.depth ≤ 60 ∧ P (atom (.str x.shown))
theorem cs_repr : CallS K (fun xs H Q => ∃ x d, xs = [x] ∧ Dat K H x d ∧ Shows d ∧ d.depth ≤ 60 ∧ Q (.str d.shown) H) wRepr := ⟨fun W ρ σ H H1 vs rs P Q S s es h q => by
  obtain ⟨x, f, rfl, h⟩ := w1_of h
  obtain ⟨v, rfl, e⟩ := one_of es
  exact ⟨v, x, rfl, Dat.up res_sub (ER.wk S s e), h.1, h.2.1, q _ _ H1 (Bu.refl _ _) er_str h.2.2⟩⟩
end
/-! ### defs -/
abbrev WF := List Sl → DK → Prop
def ArgR (K : PySem.W.Frag) (β : Option Addr) (F : Hp) (v : V) : Sl → Prop
  | .dat x => Dat K F v x
  | .bag => ∃ b, β = some b ∧ v = .ref b
  | _ => False
inductive ArgRs (K : PySem.W.Frag) (β : Option Addr) (F : Hp) : List V → List Sl → Prop
  | nil : ArgRs K β F [] []
  | cons {v : V} {vs : List V} {s : Sl} {ss : List Sl} : ArgR K β F v s → ArgRs K β F vs ss → ArgRs K β F (v :: vs) (s :: ss)
def RetR (K : PySem.W.Frag) (β : Option Addr) (R : Addr → Prop) (H H' : Hp) (v : V) : Dv → Prop
  | .bag => False
  | .d x .fr => ∃ p, v = .ref p ∧ H p = none ∧ Cell K (res (fun q => ((R q ∨ H q = none) ∧ β ≠ some q) ∧ q ≠ p) H') H' p x
  | .d x _ => Dat K (res (fun q => (R q ∨ H q = none) ∧ β ≠ some q) H') v x
def spD (K : PySem.W.Frag) (n : Nat) (wf : WF) : Sp := fun vs H Q _ => ∃ (β : Option Addr) (R : Addr → Prop) (as : List Sl) (P : DK), BagO β H ∧ ArgRs K β (res (fun q => R q ∧ β ≠ some q) H) vs as ∧ as.length = n ∧ wf as P ∧
  ∀ r v H', Bu β H H' → RetR K β R H H' v r → P r → Q v H'
theorem ArgRs.len {K : PySem.W.Frag} {β : Option Addr} {F : Hp} {vs : List V} {ss : List Sl} (h : ArgRs K β F vs ss) : vs.length = ss.length := by
  induction h with
  | nil => rfl
  | cons _ _ ih => rw [List.length_cons, List.length_cons, ih]
def toSl : Dv → Sl
  | .d x _ => .dat x
  | .bag => .bag
def argG : Dv → Bool
  | .d x f => goodF f x
  | .bag => true
def argGs : List Dv → Bool
  | [] => true
  | r :: rs => argG r && argGs rs
def hasBag : List Dv → Bool
  | [] => false
  | .bag :: _ => true
  | _ :: rs => hasBag rs
def resFl (g : Bool) (r : Dv) : Dv := match g, r with
  | true, .d x .fr => .d x .fr
  | true, .d x _ => .d x .gd
  | false, .d (.list ds) .fr => .d (.list ds) (flIf (pures ds) .fr)
  | false, .d x _ => .d x (flIf (pure_ x) .gd)
  | _, .bag => .bag
def wOwn (wf : WF) : WC := fun rs P => wf (rs.map toSl) fun r => P (resFl (argGs rs) r)
section
variable {K : PySem.W.Frag} {W : Wd} {ρ : Ro} {σ : L2.St} {H H1 H2 : Hp} {v : V}
theorem args_g {β : Option Addr} {rs : List Dv} {vs : List V} {R : Addr → Prop} (S : Sim K W ρ σ H) (s : Bu W.β H H1) (h : ERs K W ρ σ H H1 vs rs) (hR : ∀ q, okg W ρ σ q → R q ∧ β ≠ some q) (hb : hasBag rs = true → β = W.β) (g : argGs rs = true) :
    ArgRs K β (res (fun q => R q ∧ β ≠ some q) H1) vs (rs.map toSl) := by
  induction h with
  | nil => exact .nil
  | @cons v vs r rs a _ _ ih =>
    simp only [argGs, Bool.and_eq_true] at g
    refine .cons ?_ (ih (fun z => hb (by cases r <;> simp [hasBag, z])) g.2)
    cases r with
    | bag => obtain ⟨b, e1, e2⟩ := a; exact ⟨b, (hb rfl).trans e1, e2⟩
    | d x f => exact Dat.up (res_up fun q o k e => ⟨hR q k, e⟩) (ER.gd S s a g.1)
theorem args_w {β : Option Addr} {rs : List Dv} {vs : List V} {R : Addr → Prop} (S : Sim K W ρ σ H) (s : Bu W.β H H1) (h : ERs K W ρ σ H H1 vs rs) (hR : ∀ q, okw W q → R q ∧ β ≠ some q) (hb : hasBag rs = true → β = W.β) :
    ArgRs K β (res (fun q => R q ∧ β ≠ some q) H1) vs (rs.map toSl) := by
  induction h with
  | nil => exact .nil
  | @cons v vs r rs a _ _ ih =>
    refine .cons ?_ (ih (fun z => hb (by cases r <;> simp [hasBag, z])))
    cases r with
    | bag => obtain ⟨b, e1, e2⟩ := a; exact ⟨b, (hb rfl).trans e1, e2⟩
    | d x f => exact Dat.up (res_up fun q o k e => ⟨hR q k, e⟩) (ER.wk S s a)
/-- what comes back -/
theorem ret_er {β : Option Addr} {r : Dv} {rs : List Dv} (S : Sim K W ρ σ H) (s : Bu W.β H H1) (s2 : Bu W.β H1 H2) (hβ : β = none ∨ β = W.β)
    (h : RetR K β (if argGs rs = true then okg W ρ σ else okw W) H1 H2 v r) : ER K W ρ σ H H2 v (resFl (argGs rs) r) := by
  have S1 := S.step s
  have up : ∀ (R : Addr → Prop), (∀ q, R q → okw W q) → ∀ q, (R q ∨ H1 q = none) ∧ β ≠ some q → okw W q := fun R hR q ⟨a, _⟩ => by
    rcases a with a | a
    · exact hR q a
    · exact (S1.okg_new a).1
  cases eg : argGs rs with
  | true =>
    rw [eg, if_pos rfl] at h
    have toG : ∀ q, (okg W ρ σ q ∨ H1 q = none) ∧ β ≠ some q → okg W ρ σ q := fun q ⟨a, _⟩ => by
      rcases a with a | a
      · exact a
      · exact S1.okg_new a
    have gd : ∀ {x : PyData}, Dat K (res (fun q => (okg W ρ σ q ∨ H1 q = none) ∧ β ≠ some q) H2) v x → Dat K (res (okg W ρ σ) H2) v x := fun d => Dat.up (res_up fun q o k e => ⟨toG q k, e⟩) d
    cases r with
    | bag => exact h.elim
    | d x f =>
      cases f with
      | fr =>
        obtain ⟨p, e1, e2, c⟩ := h
        exact ⟨p, e1, s.back S.now e2, c.up (res_up fun q o k e => ⟨⟨toG q k.1, k.2⟩, e⟩) fun o e => e⟩
      | gd => exact gd h
      | ow => exact gd h
      | wk => exact gd h
  | false =>
    rw [eg, if_neg (by decide)] at h
    have toW := up (okw W) fun q k => k
    have wk : ∀ {x : PyData}, Dat K (res (fun q => (okw W q ∨ H1 q = none) ∧ β ≠ some q) H2) v x → Dat K (res (okw W) H2) v x := fun d => Dat.up (res_up fun q o k e => ⟨toW q k, e⟩) d
    have s12 := s.trans s2
    have weak : ∀ {x : PyData}, Dat K (res (okw W) H2) v x → ER K W ρ σ H H2 v (.d x (flIf (pure_ x) .gd)) := fun d => er_of d fun z => pure_g S s12 z d
    cases r with
    | bag => exact h.elim
    | d x f =>
      cases f with
      | fr =>
        obtain ⟨p, e1, e2, c⟩ := h
        have ok := S1.okg_new e2
        subst e1
        cases x with
        | list ds =>
          obtain ⟨vs, e3, all⟩ := c
          have all' : DatAll K (res (okw W) H2) vs ds := DatAll.up (res_up fun q o k e => ⟨toW q k.1, e⟩) all
          show ER K W ρ σ H H2 (.ref p) (.d (.list ds) (flIf (pures ds) .fr))
          cases ep : pures ds with
          | false => exact Dat.lst (SqL.of (res_at.mpr ⟨ok.1, e3⟩)) all'
          | true =>
            have all2 := pures_g S s12 ep all'
            refine ⟨p, rfl, s.back S.now e2, vs, e3, DatAll.up (fun q o e => ?_) (pures_up (F' := res (fun q => okg W ρ σ q ∧ q ≠ p) H2) (fun q o e t => ?_) ep all2)⟩
            · exact e
            · obtain ⟨k1, k2⟩ := res_at.mp e
              refine res_at.mpr ⟨⟨k1, fun z => ?_⟩, k2⟩
              rw [z, e3] at k2
              cases k2
              rcases t with ⟨_, t⟩ | ⟨_, _, t⟩ <;> cases t
        | dict kvs => exact weak (Cell.dat (c.up (res_up fun q o k e => ⟨toW q k.1, e⟩) fun o e => e) fun o e => res_at.mpr ⟨ok.1, e⟩)
        | _ => exact c.elim
      | gd =>
        show ER K W ρ σ H H2 v (resFl false (.d x .gd))
        cases x <;> exact weak (wk h)
      | ow =>
        show ER K W ρ σ H H2 v (resFl false (.d x .ow))
        cases x <;> exact weak (wk h)
      | wk =>
        show ER K W ρ σ H H2 v (resFl false (.d x .wk))
        cases x <;> exact weak (wk h)
theorem okg_sub : ∀ q, okg W ρ σ q → okw W q := fun q k => k.1
/-- a def's promise by data, called -/
theorem call_own {n : Nat} {wf : WF} {E : XK} {rs : List Dv} {vs : List V} {P : DK} {Q : VK} (S : Sim K W ρ σ H) (s : Bu W.β H H1) (h : ERs K W ρ σ H H1 vs rs) (hn : rs.length = n) (hw : wOwn wf rs P)
    (q : ∀ r v H2, Bu W.β H1 H2 → ER K W ρ σ H H2 v r → P r → Q v H2) : spD K n wf (vs ++ []) H1 Q E := by
  rw [List.append_nil]
  have S1 := S.step s
  have ne : ∀ {β : Option Addr}, (β = none ∨ β = W.β) → ∀ q, okw W q → β ≠ some q := fun hβ q k z => by
    rcases hβ with e | e
    · rw [e] at z; cases z
    · exact k.2.2 (e ▸ z)
  let β : Option Addr := if hasBag rs = true then W.β else none
  have hβ : β = none ∨ β = W.β := by
    by_cases hb : hasBag rs = true
    · exact .inr (if_pos hb)
    · exact .inl (if_neg hb)
  have bag : BagO β H1 := fun b e => by
    rcases hβ with z | z
    · rw [z] at e; cases e
    · exact S1.now b (z ▸ e)
  have step : ∀ {H2 : Hp}, Bu β H1 H2 → Bu W.β H1 H2 := fun x => by
    rcases hβ with z | z
    · rw [z] at x; exact Bu.of x
    · rwa [z] at x
  refine ⟨β, if argGs rs = true then okg W ρ σ else okw W, rs.map toSl, _, bag, ?_, by rw [List.length_map, hn], hw, fun r v H2 x ret p => q _ v H2 (step x) (ret_er S s (step x) hβ ret) p⟩
  cases eg : argGs rs with
  | true => exact args_g S s h (fun q k => ⟨by rw [if_pos rfl]; exact k, ne hβ q k.1⟩) (fun hb => if_pos hb) eg
  | false => exact args_w S s h (fun q k => ⟨by rw [if_neg (by decide)]; exact k, ne hβ q k⟩) (fun hb => if_pos hb)
end
def dOwn (n : Nat) (wf : WF) (wa : DA) : DE := fun ρ P => wa ρ fun rs => rs.length = n ∧ wOwn wf rs P
section
variable {X : Cx} {k n : Nat} {f : Addr} {fd : FuncData} {ps : List Str} {x : Str} {p pos : Pos} {e : Expr} {es : List Expr} {ta : TA} {wa : DA} {wf : WF}
theorem pd_call {E : XK} (F : FnOk X.prog X.w X.K X.mg X.base CX0 k f fd ps (spD X.K n wf)) (hr : Room k X.A) (hg : Gl X x) (hm : X.mg x = some (.ref f)) (hk : PySem.W.keepIn X.K (.ref f) = true) (hb : Binds X.K fd ps []) (hx : Passes CX0 X E)
    (ha : PDA X (e :: es) ta wa) (hdb : (x == ("__debug__" : Str)) = false := by decide) (he : starEach (e :: es) X.env = (false, eval e X.env) :: starEach es X.env := by rfl) (hpl : (backTo pos (starEach es X.env)).any (·.1) = false := by rfl) :
    PD X (.Call (.Name x p) (e :: es) [] pos) (tCall (spD X.K n wf) [] E ta) (dOwn n wf wa) :=
  ⟨pe_call F hr hg hm hk hb .nil hx ha.pa hdb he hpl, ⟨fun W ρ σ H P Q S hw q => ha.snd.go W ρ σ H _ _ S hw fun rs vs H1 s1 e1 p1 => call_own S s1 e1 p1.1 p1.2 fun r v H2 s2 e2 p2 => q r v H2 (s1.trans s2) e2 p2⟩⟩
theorem pd_callG (F : FnG X.prog X.w X.K X.mg X.base k f fd ps (spD X.K n wf)) (hr : Room k X.A) (guards : X.A.guards = some []) (hg : Gl X x) (hm : X.mg x = some (.ref f)) (hk : PySem.W.keepIn X.K (.ref f) = true) (hb : Binds X.K fd ps [])
    (ha : PDA X (e :: es) ta wa) (hdb : (x == ("__debug__" : Str)) = false := by decide) (he : starEach (e :: es) X.env = (false, eval e X.env) :: starEach es X.env := by rfl) (hpl : (backTo pos (starEach es X.env)).any (·.1) = false := by rfl) :
    PD X (.Call (.Name x p) (e :: es) [] pos) (fun σ H Q => ta σ H fun vs H1 => spD X.K n wf vs H1 Q E0) (dOwn n wf wa) :=
  ⟨callG F hr guards hg hm hk hb ha.pa hdb he hpl, ⟨fun W ρ σ H P Q S hw q => ha.snd.go W ρ σ H _ _ S hw fun rs vs H1 s1 e1 p1 => by
    have := call_own (E := E0) S s1 e1 p1.1 p1.2 fun r v H2 s2 e2 p2 => q r v H2 (s1.trans s2) e2 p2
    rwa [List.append_nil] at this⟩⟩
end
/-- a def whose promise is weakened -/
theorem spD_imp {K : PySem.W.Frag} {n : Nat} {wf wf' : WF} (h : ∀ as P, as.length = n → wf' as P → wf as P) : ∀ vs H Q E, spD K n wf' vs H Q E → spD K n wf vs H Q E := fun vs H Q E ⟨β, R, as, P, a, b, c, d, e⟩ => ⟨β, R, as, P, a, b, c, h as P c d, e⟩
end Pd

/-! D6: statements by data -/
namespace Pd
open PySem PySem.Spec PyProof.Rows L2 Vd
open Classical
structure DEnds where
  nx : Ro → Prop
  rt : DK
  bk : Ro → Prop := fun _ => False
  ct : Ro → Prop := fun _ => False
abbrev DS := DEnds → Ro → Prop
/-- what was good stays as it was -/
def Fwd (W : Wd) (ρ : Ro) (σ : L2.St) (H : Hp) (ρ' : Ro) (σ' : L2.St) (H' : Hp) : Prop := ∀ p o, okg W ρ σ p → H p = some o → okg W ρ' σ' p ∧ H' p = some o
theorem Fwd.refl {W : Wd} {ρ : Ro} {σ : L2.St} {H : Hp} : Fwd W ρ σ H ρ σ H := fun _ _ a b => ⟨a, b⟩
theorem Fwd.trans {W : Wd} {ρ ρ1 ρ2 : Ro} {σ σ1 σ2 : L2.St} {H H1 H2 : Hp} (x : Fwd W ρ σ H ρ1 σ1 H1) (y : Fwd W ρ1 σ1 H1 ρ2 σ2 H2) : Fwd W ρ σ H ρ2 σ2 H2 := fun p o a b => let ⟨a1, b1⟩ := x p o a b; y p o a1 b1
theorem Fwd.step {W : Wd} {ρ : Ro} {σ : L2.St} {H H1 : Hp} (x : Bu W.β H H1) : Fwd W ρ σ H ρ σ H1 := fun p o a b => ⟨a, x.at a.1.2.2 b⟩
structure Lnk (K : PySem.W.Frag) (W : Wd) (ρ : Ro) (σ : L2.St) (H : Hp) (De : DEnds) (D : Ends) : Prop where
  nx : ∀ ρ' σ' H', Sim K W ρ' σ' H' → Fwd W ρ σ H ρ' σ' H' → De.nx ρ' → D.nx σ' H'
  rt : ∀ r v H', Bu W.β W.H0 H' → RetR K W.β W.R W.H0 H' v r → De.rt r → D.rt v H'
  bk : ∀ ρ' σ' H', Sim K W ρ' σ' H' → Fwd W ρ σ H ρ' σ' H' → De.bk ρ' → D.bk σ' H'
  ct : ∀ ρ' σ' H', Sim K W ρ' σ' H' → Fwd W ρ σ H ρ' σ' H' → De.ct ρ' → D.ct σ' H'
theorem Lnk.fwd {K : PySem.W.Frag} {W : Wd} {ρ ρ1 : Ro} {σ σ1 : L2.St} {H H1 : Hp} {De : DEnds} {D : Ends} (L : Lnk K W ρ σ H De D) (x : Fwd W ρ σ H ρ1 σ1 H1) : Lnk K W ρ1 σ1 H1 De D :=
  ⟨fun _ _ _ S y h => L.nx _ _ _ S (x.trans y) h, L.rt, fun _ _ _ S y h => L.bk _ _ _ S (x.trans y) h, fun _ _ _ S y h => L.ct _ _ _ S (x.trans y) h⟩
structure SndS (K : PySem.W.Frag) (ts : TS) (ws : DS) : Prop where
  go : ∀ (W : Wd) (ρ : Ro) (σ : L2.St) (H : Hp) (De : DEnds) (D : Ends), Sim K W ρ σ H → ws De ρ → Lnk K W ρ σ H De D → ts D σ H
structure PDS (X : Cx) (st : Stmt) (ts : TS) (ws : DS) : Prop where
  ps : PS X st ts
  snd : SndS X.K ts ws
structure PDSs (X : Cx) (st : List Stmt) (ts : TS) (ws : DS) : Prop where
  pss : PSs X st ts
  snd : SndS X.K ts ws
def dNext : DS := fun De ρ => De.nx ρ
def dSeq (w u : DS) : DS := fun De ρ => w { De with nx := u De } ρ
section
variable {K : PySem.W.Frag} {X : Cx} {t u : TS} {w w2 : DS} {st : Stmt} {rest : List Stmt} {pos : Pos} {te : TE} {we : DE}
theorem snds_next : SndS K tNext dNext := ⟨fun W ρ σ H De D S h L => L.nx _ _ _ S Fwd.refl h⟩
theorem snds_seq (h1 : SndS K t w) (h2 : SndS K u w2) : SndS K (tSeq t u) (dSeq w w2) := ⟨fun W ρ σ H De D S h L =>
  h1.go W ρ σ H _ _ S h ⟨fun ρ' σ' H' S' x h' => h2.go W ρ' σ' H' De D S' h' (L.fwd x), L.rt, L.bk, L.ct⟩⟩
theorem pds_nil : PDSs X [] tNext dNext := ⟨pss_nil, snds_next⟩
theorem pds_cons (h1 : PDS X st t w) (h2 : PDSs X rest u w2) : PDSs X (st :: rest) (tSeq t u) (dSeq w w2) := ⟨pss_cons h1.ps h2.pss, snds_seq h1.snd h2.snd⟩
theorem pds_one (h1 : PDS X st t w) : PDSs X [st] t w := ⟨pss_one h1.ps, h1.snd⟩
def dNever : DS := fun _ _ => False
theorem pds_never : PDS X st tNever dNever := ⟨ps_never, ⟨fun W ρ σ H De D S h L => h⟩⟩
theorem pdss_never {sts : List Stmt} : PDSs X sts tNever dNever := ⟨pss_never, ⟨fun W ρ σ H De D S h L => h⟩⟩
theorem pds_pass : PDS X (.Pass pos) tNext dNext := ⟨ps_pass, snds_next⟩
def dBreak : DS := fun De ρ => De.bk ρ
def dCont : DS := fun De ρ => De.ct ρ
theorem pds_break : PDS X (.Break pos) tBreak dBreak := ⟨ps_break, ⟨fun W ρ σ H De D S h L => L.bk _ _ _ S Fwd.refl h⟩⟩
theorem pds_cont : PDS X (.Continue pos) tCont dCont := ⟨ps_continue, ⟨fun W ρ σ H De D S h L => L.ct _ _ _ S Fwd.refl h⟩⟩
theorem pds_doc {x j pos pos'} : PDS X (.Expr (.Constant (.str x) j pos) pos') tNext dNext := ⟨ps_doc, snds_next⟩
/-! ### return -/
theorem ret_of {W : Wd} {ρ : Ro} {σ : L2.St} {H H1 : Hp} {v : V} {r : Dv} (S : Sim K W ρ σ H) (s : Bu W.β H H1) (e : ER K W ρ σ H H1 v r) (nb : r ≠ .bag) : RetR K W.β W.R W.H0 H1 v r := by
  have toW : ∀ q, okw W q → (W.R q ∨ W.H0 q = none) ∧ W.β ≠ some q := fun q k => ⟨k.1, k.2.2⟩
  cases r with
  | bag => exact absurd rfl nb
  | d x f =>
    cases f with
    | fr =>
      obtain ⟨p, e1, e2, c⟩ := e
      exact ⟨p, e1, S.bu.back S.bag e2, c.up (res_up fun q o k e => ⟨⟨toW q k.1.1, k.2⟩, e⟩) fun o e => e⟩
    | gd => exact Dat.up (res_up fun q o k e => ⟨toW q k, e⟩) (ER.wk S s e)
    | ow => exact Dat.up (res_up fun q o k e => ⟨toW q k, e⟩) (ER.wk S s e)
    | wk => exact Dat.up (res_up fun q o k e => ⟨toW q k, e⟩) (ER.wk S s e)
def notBag (r : Dv) (P : DK) : Prop := match r with
  | .bag => False
  | r => P r
def dRet (w : DE) : DS := fun De ρ => w ρ fun r => notBag r De.rt
theorem pds_ret {e : Expr} (h : PD X e te we) : PDS X (.Return (some e) pos) (tRet te) (dRet we) := ⟨ps_ret h.pe, ⟨fun W ρ σ H De D S hw L =>
  h.snd.go W ρ σ H _ _ S hw fun r v H1 s1 e1 p1 => by
    cases r with
    | bag => exact p1.elim
    | d x f => exact L.rt _ v H1 (S.bu.trans s1) (ret_of S s1 e1 (fun z => by cases z)) p1⟩⟩
theorem pds_retN : PDS X (.Return none pos) tRetN (fun De _ => De.rt (atom .none)) := ⟨ps_retN, ⟨fun W ρ σ H De D S hw L => L.rt (atom .none) _ H S.bu Dat.non hw⟩⟩
/-- a list, a dict of its own, returned: nobody else has it -/
def dRetO (i : Nat) : DS := fun De ρ => match ρ[i]? with
  | some (.own x) => De.rt (.d x .fr)
  | _ => False
theorem pds_retO {i : Nat} {x : Str} {pos' : Pos} (h : PE X (.Name x pos') (tVar i)) : PDS X (.Return (some (.Name x pos')) pos) (tRet (tVar i)) (dRetO i) := ⟨ps_ret h, ⟨fun W ρ σ H De D S hw L => by
  unfold dRetO at hw
  cases e : ρ[i]? with
  | none => rw [e] at hw; exact hw.elim
  | some s =>
    rw [e] at hw
    cases s with
    | own x =>
      have lt : i < σ.length := by
        rw [S.len]
        exact (List.getElem?_eq_some_iff.mp e).1
      obtain ⟨p, e1, o1, o2, c⟩ := S.at_ i _ e
      have e2 : σ[i]? = some (some (V.ref p)) := by
        rw [List.getElem?_eq_getElem lt] at e1 ⊢
        simpa using e1
      refine ⟨_, e2, L.rt (.d x .fr) _ H S.bu ⟨p, rfl, o2, c.up (res_up fun q o k e' => ⟨⟨⟨k.1.1, k.1.2.2⟩, fun z => k.2 ⟨i, x, e, by rw [z]; exact e2⟩⟩, e'⟩) fun o e => e⟩ hw⟩
    | _ => exact hw.elim⟩⟩
/-! ### if -/
def dIf (c : DT) (w u : DS) : DS := fun De ρ => c ρ fun b => if b = true then w De ρ else u De ρ
theorem pds_if {c : Expr} {a b : List Stmt} {tc : TT} {wc : DT} (hc : PDT X c tc wc) (ha : PDSs X a t w) (hb : PDSs X b u w2) : PDS X (.If c a b pos) (tIfS tc t u) (dIf wc w w2) := ⟨ps_if hc.pt ha.pss hb.pss, ⟨fun W ρ σ H De D S hw L =>
  hc.snd.go W ρ σ H _ _ S hw fun k H1 s1 p1 => by
    cases k with
    | true => exact (if_pos rfl).mpr (ha.snd.go W ρ σ H1 De D (S.step s1) (by simpa using p1) (L.fwd (Fwd.step s1)))
    | false => exact (if_neg (by decide)).mpr (hb.snd.go W ρ σ H1 De D (S.step s1) (by simpa using p1) (L.fwd (Fwd.step s1)))⟩⟩
/-! ### slots set -/
theorem own_set {W : Wd} {ρ : Ro} {σ : L2.St} {i : Nat} {s : Sl} {u : Option V} {p : Addr} (h : IsOwn (ρ.set i s) (σ.set i u) p) : IsOwn ρ σ p ∨ ∃ x, s = .own x ∧ u = some (.ref p) := by
  obtain ⟨j, x, e1, e2⟩ := h
  by_cases ij : i = j
  · subst ij
    have lt : i < ρ.length := by
      have := (List.getElem?_eq_some_iff.mp e1).1
      rwa [List.length_set] at this
    have lt2 : i < σ.length := by
      have := (List.getElem?_eq_some_iff.mp e2).1
      rwa [List.length_set] at this
    rw [List.getElem?_set_self lt] at e1
    rw [List.getElem?_set_self lt2] at e2
    exact .inr ⟨x, Option.some.inj e1, Option.some.inj e2⟩
  · rw [List.getElem?_set_ne ij] at e1 e2
    exact .inl ⟨j, x, e1, e2⟩
/-- one slot anew; what it holds is read in the new state -/
theorem sim_set {W : Wd} {ρ : Ro} {σ : L2.St} {H H1 : Hp} {i : Nat} {s : Sl} {u : Option V} (S : Sim K W ρ σ H) (x : Bu W.β H H1) (old : ∀ y p, s = .own y → u = some (.ref p) → H p = none)
    (new : SlR K W (res (okg W (ρ.set i s) (σ.set i u)) H1) H1 u s) : Sim K W (ρ.set i s) (σ.set i u) H1 ∧ Fwd W ρ σ H (ρ.set i s) (σ.set i u) H1 := by
  have keep : ∀ q o, okg W ρ σ q → H q = some o → okg W (ρ.set i s) (σ.set i u) q ∧ H1 q = some o := fun q o k e => by
    refine ⟨⟨k.1, fun z => ?_⟩, x.at k.1.2.2 e⟩
    rcases own_set (W := W) z with z | ⟨y, e1, e2⟩
    · exact k.2 z
    · rw [old y q e1 e2] at e
      cases e
  have S1 := S.step x
  refine ⟨⟨by rw [List.length_set, List.length_set, S.len], S1.bu, S.bag, fun j s' e => ?_, S1.hid, fun j k y z p jk e1 e2 e3 e4 => ?_⟩, keep⟩
  · by_cases ij : i = j
    · subst ij
      have lt : i < ρ.length := by
        have := (List.getElem?_eq_some_iff.mp e).1
        rwa [List.length_set] at this
      rw [List.getElem?_set_self lt] at e
      cases e
      rw [List.getElem?_set_self (by rw [S.len]; exact lt)]
      exact new
    · rw [List.getElem?_set_ne ij] at e ⊢
      have := S.at_ j s' e
      cases s' with
      | un => trivial
      | bag => exact this
      | dat d => obtain ⟨v, e1, e2⟩ := this; exact ⟨v, e1, Dat.up (res_up keep) e2⟩
      | own d => obtain ⟨p, e1, e2, e3, e4⟩ := this; exact ⟨p, e1, e2, e3, e4.up (res_up keep) fun o e => x.at e2.2.2 e⟩
  · have fresh : ∀ {m : Nat} {y z : PyData} {p : Addr}, i ≠ m → s = .own y → u = some (V.ref p) → ρ[m]? = some (.own z) → σ[m]? = some (some (V.ref p)) → False := fun {m y z p} im q1 q2 q3 q4 => by
      have n := old y p q1 q2
      have := (S.new n).2.2
      exact this ⟨m, z, q3, q4⟩
    have setAt : ∀ {y : PyData} {p : Addr}, (ρ.set i s)[i]? = some (.own y) → (σ.set i u)[i]? = some (some (V.ref p)) → s = .own y ∧ u = some (V.ref p) := fun {y p} q1 q2 => by
      have l1 : i < ρ.length := by
        have := (List.getElem?_eq_some_iff.mp q1).1
        rwa [List.length_set] at this
      have l2 : i < σ.length := by rw [S.len]; exact l1
      rw [List.getElem?_set_self l1] at q1
      rw [List.getElem?_set_self l2] at q2
      exact ⟨Option.some.inj q1, Option.some.inj q2⟩
    by_cases ij : i = j
    · subst ij
      obtain ⟨a, b⟩ := setAt e1 e3
      rw [List.getElem?_set_ne jk] at e2 e4
      exact fresh jk a b e2 e4
    · by_cases ik : i = k
      · subst ik
        obtain ⟨a, b⟩ := setAt e2 e4
        rw [List.getElem?_set_ne ij] at e1 e3
        exact fresh ij a b e1 e3
      · rw [List.getElem?_set_ne ij] at e1 e3
        rw [List.getElem?_set_ne ik] at e2 e4
        exact S.apart j k y z p jk e1 e2 e3 e4
def noOwn : Ro → Bool
  | [] => true
  | .own _ :: _ => false
  | _ :: r => noOwn r
theorem noOwn_no : ∀ {ρ : Ro} {i : Nat} {x : PyData}, noOwn ρ = true → ρ[i]? = some (.own x) → False
  | [], _, _, _, e => by simp at e
  | s :: r, 0, x, h, e => by
    simp at e
    subst e
    cases h
  | s :: r, i + 1, x, h, e => by
    have e' : r[i]? = some (.own x) := by simpa using e
    cases s with
    | own _ => cases h
    | un => exact noOwn_no (ρ := r) h e'
    | bag => exact noOwn_no (ρ := r) h e'
    | dat _ => exact noOwn_no (ρ := r) h e'
/-- a value is kept as data -/
def asgD (i : Nat) (r : Dv) (ρ : Ro) (P : Ro → Prop) : Prop := match r with
  | .bag => P (ρ.set i .bag)
  | .d x f => (goodF f x || noOwn (ρ.set i .un)) = true ∧ P (ρ.set i (.dat x))
theorem asgD_go {W : Wd} {ρ : Ro} {σ : L2.St} {H H1 : Hp} {i : Nat} {v : V} {r : Dv} {P : Ro → Prop} (S : Sim K W ρ σ H) (s : Bu W.β H H1) (e : ER K W ρ σ H H1 v r) (h : asgD i r ρ P) :
    ∃ s', Sim K W (ρ.set i s') (σ.set i (some v)) H1 ∧ Fwd W ρ σ H (ρ.set i s') (σ.set i (some v)) H1 ∧ P (ρ.set i s') := by
  cases r with
  | bag =>
    obtain ⟨b, e1, e2⟩ := e
    obtain ⟨a, b'⟩ := sim_set (i := i) (s := .bag) (u := some v) S s (fun y p z => by cases z) ⟨b, e1, by rw [e2]⟩
    exact ⟨_, a, b', h⟩
  | d x f =>
    obtain ⟨ok, h⟩ := h
    have dat : Dat K (res (okg W (ρ.set i (.dat x)) (σ.set i (some v))) H1) v x := by
      rw [Bool.or_eq_true] at ok
      rcases ok with ok | ok
      · refine Dat.up (res_up fun q o k e => ⟨⟨k.1, fun z => ?_⟩, e⟩) (ER.gd S s e ok)
        rcases own_set (W := W) z with z | ⟨y, e1, _⟩
        · exact k.2 z
        · cases e1
      · refine Dat.up (res_up fun q o k e => ⟨⟨k, fun z => ?_⟩, e⟩) (ER.wk S s e)
        obtain ⟨j, y, e1, e2⟩ := z
        by_cases ij : i = j
        · subst ij
          have lt : i < ρ.length := by
            have := (List.getElem?_eq_some_iff.mp e1).1
            rwa [List.length_set] at this
          rw [List.getElem?_set_self lt] at e1
          cases e1
        · rw [List.getElem?_set_ne ij] at e1
          refine noOwn_no (i := j) (x := y) ok ?_
          rw [List.getElem?_set_ne ij]
          exact e1
    obtain ⟨a, b⟩ := sim_set (i := i) (s := .dat x) (u := some v) S s (fun y p z => by cases z) ⟨v, rfl, dat⟩
    exact ⟨_, a, b, h⟩
/-- a list of one's own -/
def asgO (i : Nat) (r : Dv) (ρ : Ro) (P : Ro → Prop) : Prop := match r with
  | .d x .fr => P (ρ.set i (.own x))
  | _ => False
theorem asgO_go {W : Wd} {ρ : Ro} {σ : L2.St} {H H1 : Hp} {i : Nat} {v : V} {r : Dv} {P : Ro → Prop} (S : Sim K W ρ σ H) (s : Bu W.β H H1) (e : ER K W ρ σ H H1 v r) (h : asgO i r ρ P) :
    ∃ s', Sim K W (ρ.set i s') (σ.set i (some v)) H1 ∧ Fwd W ρ σ H (ρ.set i s') (σ.set i (some v)) H1 ∧ P (ρ.set i s') := by
  cases r with
  | bag => exact h.elim
  | d x f =>
    cases f with
    | fr =>
      obtain ⟨p, rfl, e2, c⟩ := e
      have ok := S.okg_new e2
      obtain ⟨a, b⟩ := sim_set (i := i) (s := .own x) (u := some (.ref p)) S s (fun y q z1 z2 => by cases z2; exact e2)
        ⟨p, rfl, ok.1, (S.new e2).1, c.up (res_up fun q o k e => ⟨⟨k.1.1, fun z => by
          rcases own_set (W := W) z with z | ⟨y, _, e1⟩
          · exact k.1.2 z
          · cases e1
            exact k.2 rfl⟩, e⟩) fun o e => e⟩
      exact ⟨_, a, b, h⟩
    | _ => exact h.elim
def dSetD (i : Nat) (w : DE) : DS := fun De ρ => w ρ fun r => asgD i r ρ De.nx
def dSetO (i : Nat) (w : DE) : DS := fun De ρ => w ρ fun r => asgO i r ρ De.nx
theorem snds_setD {i : Nat} (h : Snd K te we) : SndS K (tAsg te (gName i)) (dSetD i we) := ⟨fun W ρ σ H De D S hw L =>
  h.go W ρ σ H _ _ S hw fun r v H1 s1 e1 p1 => by
    obtain ⟨s', S', f, p⟩ := asgD_go S s1 e1 p1
    exact L.nx _ _ _ S' f p⟩
theorem snds_setO {i : Nat} (h : Snd K te we) : SndS K (tAsg te (gName i)) (dSetO i we) := ⟨fun W ρ σ H De D S hw L =>
  h.go W ρ σ H _ _ S hw fun r v H1 s1 e1 p1 => by
    obtain ⟨s', S', f, p⟩ := asgO_go S s1 e1 p1
    exact L.nx _ _ _ S' f p⟩
theorem pds_setD {i : Nat} {e : Expr} (h : PD X e te we) (hs : PS X st (tAsg te (gName i))) : PDS X st (tAsg te (gName i)) (dSetD i we) := ⟨hs, snds_setD h.snd⟩
theorem pds_setO {i : Nat} {e : Expr} (h : PD X e te we) (hs : PS X st (tAsg te (gName i))) : PDS X st (tAsg te (gName i)) (dSetO i we) := ⟨hs, snds_setO h.snd⟩
/-- what is one's own becomes data -/
def frz (i : Nat) (ρ : Ro) : Ro := match ρ[i]? with
  | some (.own x) => ρ.set i (.dat x)
  | _ => ρ
theorem sim_frz {W : Wd} {ρ : Ro} {σ : L2.St} {H : Hp} {i : Nat} (S : Sim K W ρ σ H) : Sim K W (frz i ρ) σ H ∧ Fwd W ρ σ H (frz i ρ) σ H := by
  unfold frz
  split
  · rename_i x e
    have lt : i < σ.length := by
      rw [S.len]
      exact (List.getElem?_eq_some_iff.mp e).1
    obtain ⟨p, e1, o1, o2, c⟩ := S.at_ i _ e
    have e2 : σ[i]? = some (some (V.ref p)) := by
      rw [List.getElem?_eq_getElem lt] at e1 ⊢
      simpa using e1
    have same : σ.set i (some (V.ref p)) = σ := by
      obtain ⟨h1, h2⟩ := List.getElem?_eq_some_iff.mp e2
      rw [← h2]
      exact List.set_getElem_self ..
    have here : okg W (ρ.set i (.dat x)) (σ.set i (some (V.ref p))) p := ⟨o1, fun z => by
      obtain ⟨j, y, e3, e4⟩ := z
      rw [same] at e4
      by_cases ij : i = j
      · subst ij
        rw [List.getElem?_set_self (by rw [← S.len]; exact lt)] at e3
        cases e3
      · rw [List.getElem?_set_ne ij] at e3
        exact S.apart i j x y p ij e e3 e2 e4⟩
    have := sim_set (i := i) (s := .dat x) (u := some (V.ref p)) S (Bu.refl _ _) (fun y q z => by cases z) ⟨_, rfl, (c.up (F' := res (okg W (ρ.set i (.dat x)) (σ.set i (some (V.ref p)))) H) (res_up fun q o k e => ⟨⟨k.1, fun z => by
      rcases own_set (W := W) z with z | ⟨y, e1, _⟩
      · exact k.2 z
      · cases e1⟩, e⟩) fun o e => e).dat fun o e => res_at.mpr ⟨here, e⟩⟩
    rwa [same] at this
  · exact ⟨S, Fwd.refl⟩
def dFrz (i : Nat) (w : DS) : DS := fun De ρ => w De (frz i ρ)
theorem snds_frz (i : Nat) (h : SndS K t w) : SndS K t (dFrz i w) := ⟨fun W ρ σ H De D S hw L => by
  obtain ⟨S', f⟩ := sim_frz (i := i) S
  exact h.go W _ σ H De D S' hw (L.fwd f)⟩
theorem pds_frz (i : Nat) (h : PDS X st t w) : PDS X st t (dFrz i w) := ⟨h.ps, snds_frz i h.snd⟩
/-! ### targets -/
abbrev WG := Dv → Ro → (Ro → Prop) → Prop
abbrev WGs := List PyData → Ro → (Ro → Prop) → Prop
def Out (sl : List Nat) (ρ : Ro) (σ : L2.St) (ρ' : Ro) (σ' : L2.St) : Prop := ρ'.length = ρ.length ∧ ∀ j, j ∉ sl → ρ'[j]? = ρ[j]? ∧ σ'[j]? = σ[j]?
structure SndG (K : PySem.W.Frag) (g : TG) (sl : List Nat) (w : WG) : Prop where
  go : ∀ (W : Wd) (ρ : Ro) (σ : L2.St) (H H1 : Hp) (v : V) (r : Dv) (P : Ro → Prop) (Q : L2.St → Hp → Prop), Sim K W ρ σ H → Bu W.β H H1 → ER K W ρ σ H H1 v r → w r ρ P → (∀ ρ' σ', Sim K W ρ' σ' H1 → Fwd W ρ σ H ρ' σ' H1 → Out sl ρ σ ρ' σ' → P ρ' → Q σ' H1) → g v σ H1 Q
structure SndGs (K : PySem.W.Frag) (g : TGs) (sl : List Nat) (w : WGs) : Prop where
  go : ∀ (W : Wd) (ρ : Ro) (σ : L2.St) (H : Hp) (vs : List V) (ds : List PyData) (P : Ro → Prop) (Q : L2.St → Hp → Prop), Sim K W ρ σ H → DatAll K (res (okg W ρ σ) H) vs ds → w ds ρ P → (∀ ρ' σ', Sim K W ρ' σ' H → Fwd W ρ σ H ρ' σ' H → Out sl ρ σ ρ' σ' → P ρ' → Q σ' H) → g vs σ H Q
structure PDG (X : Cx) (e : Expr) (g : TG) (sl : List Nat) (w : WG) : Prop where
  pg : PG X e g
  snd : SndG X.K g sl w
structure PDGs (X : Cx) (es : List Expr) (g : TGs) (sl : List Nat) (w : WGs) : Prop where
  pgs : PGs X es g
  snd : SndGs X.K g sl w
theorem sndg_name {i : Nat} : SndG K (gName i) [i] (fun r ρ P => asgD i r ρ P) := ⟨fun W ρ σ H H1 v r P Q S s e h q => by
  obtain ⟨s', S', f, p⟩ := asgD_go S s e h
  refine q _ _ S' f ⟨List.length_set .., fun j nj => ?_⟩ p
  have : i ≠ j := fun z => nj (by rw [z]; exact List.mem_singleton_self _)
  exact ⟨List.getElem?_set_ne this, List.getElem?_set_ne this⟩⟩
def wgNil : WGs := fun ds ρ P => ds = [] ∧ P ρ
def wgCons (w : WG) (u : WGs) : WGs := fun ds ρ P => match ds with
  | [] => False
  | d :: ds => w (.d d .gd) ρ fun ρ' => u ds ρ' P
def wgTup (n : Nat) (u : WGs) : WG := fun r ρ P => match r with
  | .d (.tuple ds) f => (f.parts || pures ds) = true ∧ ds.length = n ∧ u ds ρ P
  | .d (.list ds) f => (f.parts || pures ds) = true ∧ ds.length = n ∧ u ds ρ P
  | _ => False
/-- a tuple or a list taken apart -/
def gSq (K : PySem.W.Frag) (n : Nat) (t : TGs) : TG := fun v σ H Q => gTup K n t v σ H Q ∨ gLst K n t v σ H Q
theorem pg_sq {es : List Expr} {k : Nat} {t : TGs} {n : Nat} (hc : X.calm = true) (h : PGs X es t) (hn : (assignEach es X.env).length = n := by rfl) (hst : (assignEach es X.env).findIdx? (·.1) = none := by rfl) : PG X (.Tuple es k pos) (gSq X.K n t) :=
  ⟨fun pins s σ H v u Q I r hw => hw.elim (fun hw => (pg_tup hc h hn hst).run pins s σ H v u Q I r hw) fun hw => (pg_lst hc h hn hst).run pins s σ H v u Q I r hw⟩
theorem sndgs_nil : SndGs K gNil [] wgNil := ⟨fun W ρ σ H vs ds P Q S d h q => by
  obtain ⟨rfl, h⟩ := h
  cases d
  exact ⟨rfl, q _ _ S Fwd.refl ⟨rfl, fun j _ => ⟨rfl, rfl⟩⟩ h⟩⟩
theorem sndgs_cons {g : TG} {gs : TGs} {w : WG} {u : WGs} {l1 l2 : List Nat} (h1 : SndG K g l1 w) (h2 : SndGs K gs l2 u) : SndGs K (gCons g gs) (l1 ++ l2) (wgCons w u) := ⟨fun W ρ σ H vs ds P Q S d h q => by
  cases d with
  | nil => exact h.elim
  | @cons v vs d ds a b =>
    refine ⟨v, vs, rfl, h1.go W ρ σ H H v (.d d .gd) _ _ S (Bu.refl _ _) a h fun ρ' σ' S' f o p => ?_⟩
    exact h2.go W ρ' σ' H vs ds P Q S' (DatAll.up (res_up f) b) p fun ρ2 σ2 S2 f2 o2 p2 => q ρ2 σ2 S2 (f.trans f2) ⟨o2.1.trans o.1, fun j nj => by
      obtain ⟨a1, a2⟩ := o.2 j fun z => nj (List.mem_append_left _ z)
      obtain ⟨b1, b2⟩ := o2.2 j fun z => nj (List.mem_append_right _ z)
      exact ⟨b1.trans a1, b2.trans a2⟩⟩ p2⟩
theorem sndg_tup {n : Nat} {gs : TGs} {u : WGs} {l : List Nat} (h : SndGs K gs l u) : SndG K (gSq K n gs) l (wgTup n u) := ⟨fun W ρ σ H H1 v r P Q S s e hw q => by
  cases r with
  | bag => exact hw.elim
  | d x f =>
    cases x with
    | tuple ds =>
      obtain ⟨ok, len, hw⟩ := hw
      obtain ⟨a, xs, rfl, sq, w, g⟩ := ER.tup S s e
      refine .inl ⟨a, xs, rfl, sq, by rw [dats_len w, len], ?_⟩
      exact h.go W ρ σ H1 xs ds P Q (S.step s) (g ok) hw fun ρ' σ' S' f' o p => q ρ' σ' S' ((Fwd.step s).trans f') o p
    | list ds =>
      obtain ⟨ok, len, hw⟩ := hw
      obtain ⟨a, xs, rfl, sq, w, g⟩ := ER.lst S s e
      refine .inr ⟨a, xs, rfl, sq, by rw [dats_len w, len], ?_⟩
      exact h.go W ρ σ H1 xs ds P Q (S.step s) (g ok) hw fun ρ' σ' S' f' o p => q ρ' σ' S' ((Fwd.step s).trans f') o p
    | _ => exact hw.elim⟩
theorem pdg_name {i : Nat} {x : Str} {pos' : Pos} (h : PG X (.Name x pos') (gName i)) : PDG X (.Name x pos') (gName i) [i] (fun r ρ P => asgD i r ρ P) := ⟨h, sndg_name⟩
theorem pdgs_nil : PDGs X [] gNil [] wgNil := ⟨pgs_nil, sndgs_nil⟩
theorem pdgs_cons {e : Expr} {es : List Expr} {g : TG} {gs : TGs} {w : WG} {u : WGs} {l1 l2 : List Nat} (h1 : PDG X e g l1 w) (h2 : PDGs X es gs l2 u) (hs : (assignEach (e :: es) X.env).map (·.2) = assign e X.env :: (assignEach es X.env).map (·.2) := by rfl) : PDGs X (e :: es) (gCons g gs) (l1 ++ l2) (wgCons w u) := ⟨pgs_cons h1.pg h2.pgs hs, sndgs_cons h1.snd h2.snd⟩
theorem pdg_tup {es : List Expr} {k n : Nat} {gs : TGs} {u : WGs} {l : List Nat} (h : PDGs X es gs l u) (hp : PG X (.Tuple es k pos) (gSq X.K n gs)) : PDG X (.Tuple es k pos) (gSq X.K n gs) l (wgTup n u) := ⟨hp, sndg_tup h.snd⟩
def dAsg (w : DE) (g : WG) : DS := fun De ρ => w ρ fun r => g r ρ De.nx
theorem snds_asg {g : TG} {wg : WG} {l : List Nat} (h : Snd K te we) (hg : SndG K g l wg) : SndS K (tAsg te g) (dAsg we wg) := ⟨fun W ρ σ H De D S hw L =>
  h.go W ρ σ H _ _ S hw fun r v H1 s1 e1 p1 => hg.go W ρ σ H H1 v r _ _ S s1 e1 p1 fun ρ' σ' S' f _ p => L.nx _ _ _ S' f p⟩
theorem pds_asg {g : TG} {wg : WG} {l : List Nat} {e tg : Expr} (h : PD X e te we) (hg : PDG X tg g l wg) (hs : PS X st (tAsg te g)) : PDS X st (tAsg te g) (dAsg we wg) := ⟨hs, snds_asg h.snd hg.snd⟩
/-- a def by its body -/
theorem sim_start {N : List Str} {vs : List V} {H : Hp} {β : Option Addr} {R : Addr → Prop} {as : List Sl} (bag : BagO β H) (h : ArgRs K β (res (fun q => R q ∧ β ≠ some q) H) vs as) :
    Sim K ⟨β, H, R, fun _ => False⟩ (as ++ List.replicate (N.length - as.length) .un) (L2.start N vs) H := by
  have len := h.len
  have noown : ∀ (i : Nat) (x : PyData), (as ++ List.replicate (N.length - as.length) .un)[i]? = some (.own x) → False := fun i x e => by
    have m := List.mem_of_getElem? e
    rcases List.mem_append.mp m with m | m
    · clear e len
      induction h with
      | nil => cases m
      | @cons v vs s ss a _ ih =>
        cases m with
        | head => exact a
        | tail _ m => exact ih (List.mem_append_left _ m) m
    · have := List.eq_of_mem_replicate m
      cases this
  refine ⟨?_, Bu.refl _ _, bag, fun i s e => ?_, fun p h => h.elim, fun i j x y p _ e => (noown i x e).elim⟩
  · unfold L2.start
    rw [List.length_append, List.length_append, List.length_map, List.length_replicate, List.length_replicate, len]
  · by_cases lt : i < as.length
    · rw [List.getElem?_append_left lt] at e
      have e2 : ((L2.start N vs)[i]?.getD none) = vs[i]? := by
        unfold L2.start
        rw [List.getElem?_append_left (by rw [List.length_map]; omega), List.getElem?_map]
        cases vs[i]? <;> rfl
      have key : ∀ {vs : List V} {as : List Sl}, ArgRs K β (res (fun q => R q ∧ β ≠ some q) H) vs as → ∀ (i : Nat) (s : Sl), as[i]? = some s → ∃ v, vs[i]? = some v ∧ ArgR K β (res (fun q => R q ∧ β ≠ some q) H) v s := by
        intro vs as h
        induction h with
        | nil => intro i s e; simp at e
        | @cons v vs s ss a _ ih =>
          intro i s' e
          cases i with
          | zero => simp at e; subst e; exact ⟨v, rfl, a⟩
          | succ i => obtain ⟨u, q1, q2⟩ := ih i s' (by simpa using e); exact ⟨u, by simpa using q1, q2⟩
      obtain ⟨v, e3, a⟩ := key h i s e
      rw [e2, e3]
      cases s with
      | un => trivial
      | own x => exact a.elim
      | bag => obtain ⟨b, q1, q2⟩ := a; exact ⟨b, q1, by rw [q2]⟩
      | dat x => exact ⟨v, rfl, Dat.up (res_up fun q o k e => ⟨⟨⟨.inl k.1, fun z => z, k.2⟩, fun ⟨j, y, q1, _⟩ => noown j y q1⟩, e⟩) a⟩
    · rw [List.getElem?_append_right (by omega)] at e
      have := List.mem_of_getElem? e
      have := List.eq_of_mem_replicate this
      subst this
      trivial
def runD (N : List Str) (ws : DS) : WF := fun as P => ws { nx := fun _ => P (atom .none), rt := P } (as ++ List.replicate (N.length - as.length) .un)
theorem body_of {N : List Str} {n : Nat} {ts : TS} {ws : DS} {vs : List V} {H : Hp} {Q : VK} {E : XK} (h : SndS K ts ws) (hp : spD K n (runD N ws) vs H Q E) : ts { nx := fun _ H' => Q .non H', rt := Q } (L2.start N vs) H := by
  obtain ⟨β, R, as, P, bag, args, len, hw, fin⟩ := hp
  have S := sim_start (N := N) bag args
  refine h.go _ _ _ _ _ _ S hw ⟨fun ρ' σ' H' S' _ p => fin (atom .none) .non H' S'.bu Dat.non p, fun r v H' x ret p => fin r v H' x ret p, fun _ _ _ _ _ no => no, fun _ _ _ _ _ no => no⟩
end
end Pd

/-! D7: walks, for, comprehensions by data -/
namespace Pd
open PySem PySem.Spec PyProof.Rows L2 Vd
open Classical
/-! ### one rule for lists, tuples and texts -/
def iSeq (K : PySem.W.Frag) (tl : TE) : TI := fun σ H R => tl σ H fun x H1 => (∃ a, x = .ref a ∧ (∃ xs, SqL K H1 a xs) ∧ R (Itl K a) H1) ∨ (∃ a, x = .ref a ∧ (∃ xs, SqT K H1 a xs) ∧ R (Itt K a) H1) ∨ ∃ z, x = .str z ∧ R (Its z) H1
theorem pi_seq {X : Cx} {tg l : Expr} {tl : TE} (hl : PE X l tl) : PI X tg l (iSeq X.K tl) := by
  refine ⟨fun pins s σ H R I h => ?_⟩
  refine thn (hl.run pins s σ H _ I h) fun v s1 ⟨x, H1, I1, r1, q1⟩ => ?_
  rcases q1 with ⟨a, e, ⟨xs, hq⟩, q⟩ | ⟨a, e, ⟨xs, hq⟩, q⟩ | ⟨z, e, q⟩
  · subst e
    cases r1
    obtain ⟨its, rv, p, hz⟩ := I1.list hq
    refine wpAny_pyIter_list p.isList ?_
    refine ⟨s1.heap.objs.size, [s1.heap.objs.size], _, _, H1, rfl, I1.kept (t' := s1.toks) fun b o e => Heap.get?_push_of_some _ e, turn_list a _, ⟨_, Heap.get?_push_size _ rfl, rfl, rfl⟩, fun b hb => ?_, q⟩
    have e : b = s1.heap.objs.size := by simpa using hb
    subst e
    exact I1.fpOk (Nat.le_refl _) (I1.hok.fresh (Nat.le_refl _))
  · subst e
    cases r1
    obtain ⟨its, rv, p, hz⟩ := I1.tuple hq
    refine wpAny_pyIter_tuple (show s1.heap.IsTuple a its.toArray from p) ?_
    refine ⟨s1.heap.objs.size, [s1.heap.objs.size], _, _, H1, rfl, I1.kept (t' := s1.toks) fun b o e => Heap.get?_push_of_some _ e, turn_tuple a _, ⟨_, Heap.get?_push_size _ rfl, rfl, rfl⟩, fun b hb => ?_, q⟩
    have e : b = s1.heap.objs.size := by simpa using hb
    subst e
    exact I1.fpOk (Nat.le_refl _) (I1.hok.fresh (Nat.le_refl _))
  · subst e
    obtain ⟨t, rfl⟩ := r1
    cases ha : z.cps.all (· < 128)
    · exact wpAny_pyIter_wide ha (pi_one (tk := s1.toks) I1 _ (turn_str _ z t "str_iterator" (.inr rfl)) ⟨_, Heap.get?_push_size _ rfl, rfl, rfl⟩ q)
    · exact wpAny_pyIter_ascii ha (pi_one (tk := s1.toks) I1 _ (turn_str _ z t "str_ascii_iterator" (.inl rfl)) ⟨_, Heap.get?_push_size _ rfl, rfl, rfl⟩ q)
def iEnumA (K : PySem.W.Frag) (ta : TA) : TI := fun σ H R => ta σ H fun vs H1 => ∃ a xs, vs = [.ref a] ∧ ((SqL K H1 a xs ∧ R (Ite K a) H1) ∨ (SqT K H1 a xs ∧ R (IteT K a) H1))
theorem pi_enumA {X : Cx} {e : Expr} {ta : TA} {p pos tpos : Pos} {elts : List Expr} {kk : Nat} (hg : Gl X "enumerate") (hm : X.mg "enumerate" = none) (ha : PA X [e] ta) (hs : starEach [e] X.env = [(false, eval e X.env)] := by rfl) :
    PI X (.Tuple elts kk tpos) (.Call (.Name "enumerate" p) [e] [] pos) (iEnumA X.K ta) := by
  refine ⟨fun pins s σ H R I h => ?_⟩
  refine Call_ (ld_blt I hg hm boot_enumerate (PyProof.Rows.callWith_type1 (thn (ha.run pos pins s σ H _ I h) fun us s1 ⟨vs, H1, I1, r1, q1⟩ => ?_) hs rfl))
  obtain ⟨a, xs, ex, q⟩ := q1
  subst ex
  cases r1 with
  | cons r rr =>
    cases rr
    cases r
    have fresh2 : ∀ b, b ∈ [s1.heap.objs.size + 1, s1.heap.objs.size] → FpOk X pins H1 b := fun b hb => by
      have e' : b = s1.heap.objs.size + 1 ∨ b = s1.heap.objs.size := by simpa using hb
      have hle : s1.heap.objs.size ≤ b := by
        rcases e' with z | z
        · rw [z]; exact Nat.le_add_right _ _
        · rw [z]; exact Nat.le_refl _
      exact I1.fpOk hle (I1.hok.fresh hle)
    rcases q with ⟨hq, q⟩ | ⟨hq, q⟩
    · obtain ⟨its, rv, p', hz⟩ := I1.list hq
      refine call_enumerate_list p'.isList fun h' he hit hsz hk => wpAny_pyIter_enum he ?_
      have I2 : Inv X pins σ H1 { s1 with heap := h' } := I1.kept (t' := s1.toks) hk
      exact ⟨s1.heap.objs.size + 1, [s1.heap.objs.size + 1, s1.heap.objs.size], _, _, H1, rfl, I2, turn_enum a (s1.heap.objs.size + 1) s1.heap.objs.size, ⟨⟨.none, he⟩, hit, Nat.succ_ne_self _⟩, fresh2, q⟩
    · obtain ⟨its, rv, p', hz⟩ := I1.tuple hq
      have hal : a < s1.heap.objs.size := by obtain ⟨_, q, _⟩ := id p'; exact Heap.lt_size q
      refine call_enumB (begins_tuple a its.toArray) p' fun h' he hit hsz hk => wpAny_pyIter_enum he ?_
      have I2 : Inv X pins σ H1 { s1 with heap := h' } := I1.kept (t' := s1.toks) hk
      exact ⟨s1.heap.objs.size + 1, [s1.heap.objs.size + 1, s1.heap.objs.size], _, _, H1, rfl, I2, turn_enumT a (s1.heap.objs.size + 1) s1.heap.objs.size, ⟨⟨.none, he⟩, ⟨_, hit, rfl, rfl⟩, Nat.succ_ne_self _, Nat.ne_of_lt hal, Nat.ne_of_lt (Nat.lt_succ_of_lt hal)⟩, fresh2, q⟩
/-! ### walks by data -/
abbrev DI := Ro → (List PyData → Bool → Prop) → Prop
/-- a later time, perhaps in a world that hides more -/
structure Later (K : PySem.W.Frag) (W : Wd) (ρ : Ro) (σ : L2.St) (H1 : Hp) (W' : Wd) (ρ' : Ro) (σ' : L2.St) (H' : Hp) : Prop where
  sim : Sim K W' ρ' σ' H'
  β : W'.β = W.β
  up : ∀ p o, okg W ρ σ p → H1 p = some o → okg W' ρ' σ' p ∧ H' p = some o
def ItR (K : PySem.W.Frag) (W : Wd) (ρ : Ro) (σ : L2.St) (H1 : Hp) (J : It) (ds : List PyData) (ok : Bool) : Prop := ∃ G Y, Walk J ds.length G Y ∧
  ∀ W' ρ' σ' H', Later K W ρ σ H1 W' ρ' σ' H' → ok = true ∨ Bu W.β H1 H' → G H' ∧
    ∀ i x H'', i < ds.length → Y i H' x H'' → Bu W.β H' H'' ∧ ∃ z, ds[i]? = some z ∧ Dat K (res (okg W' ρ' σ') H'') x z
structure SndI (K : PySem.W.Frag) (wi : TI) (w : DI) : Prop where
  go : ∀ (W : Wd) (ρ : Ro) (σ : L2.St) (H : Hp) (P : List PyData → Bool → Prop) (R : It → Hp → Prop), Sim K W ρ σ H → w ρ P → (∀ ds ok J H1, Bu W.β H H1 → ItR K W ρ σ H1 J ds ok → P ds ok → R J H1) → wi σ H R
structure PDI (X : Cx) (tg iter : Expr) (wi : TI) (w : DI) : Prop where
  pi : PI X tg iter wi
  snd : SndI X.K wi w
def strX (z : Str) : List PyData := z.cps.toList.map fun c => .str ⟨#[c]⟩
def wIter (x : PyData) (f : Fl) (P : List PyData → Bool → Prop) : Prop := match x with
  | .list ds => match f.good with
    | true => P ds true
    | false => (f.parts || pures ds) = true ∧ P ds false
  | .tuple ds => goodF f x = true ∧ P ds true
  | .str z => P (strX z) true
  | _ => False
def dIter (w : DE) : DI := fun ρ P => w ρ fun r => onD r fun x f => wIter x f P
section
variable {K : PySem.W.Frag} {W : Wd} {ρ : Ro} {σ : L2.St} {H H1 H2 : Hp} {v : V}
theorem dats_nth {F : Hp} {xs : List V} {ds : List PyData} (h : DatAll K F xs ds) {i : Nat} {x : V} (e : xs[i]? = some x) : ∃ z, ds[i]? = some z ∧ Dat K F x z := by
  induction xs generalizing ds i with
  | nil => simp at e
  | cons y ys ih =>
    cases h with
    | cons a b =>
      cases i with
      | zero => simp at e; subst e; exact ⟨_, rfl, a⟩
      | succ i => obtain ⟨z, q1, q2⟩ := ih b (by simpa using e); exact ⟨z, by simpa using q1, q2⟩
theorem itr_good {a : Addr} {xs : List V} {ds : List PyData} {ok : Bool} (sq : SqL K (res (okg W ρ σ) H1) a xs) (all : DatAll K (res (okg W ρ σ) H1) xs ds) : ItR K W ρ σ H1 (Itl K a) ds ok :=
  ⟨_, _, (dats_len all) ▸ walk_list (K := K) (a := a) (xs := xs), fun W' ρ' σ' H' L _ => ⟨sql_sub res_sub (sql_sub (res_up L.up) sq), fun i x H'' lt ⟨e1, e2⟩ => by
    subst e1
    exact ⟨Bu.refl _ _, dats_nth (DatAll.up (res_up L.up) all) e2⟩⟩⟩
theorem itr_tup {a : Addr} {xs : List V} {ds : List PyData} {ok : Bool} (sq : SqT K (res (okg W ρ σ) H1) a xs) (all : DatAll K (res (okg W ρ σ) H1) xs ds) : ItR K W ρ σ H1 (Itt K a) ds ok :=
  ⟨_, _, (dats_len all) ▸ walk_tup (K := K) (a := a) (xs := xs), fun W' ρ' σ' H' L _ => ⟨sqt_sub res_sub (sqt_sub (res_up L.up) sq), fun i x H'' lt ⟨e1, e2⟩ => by
    subst e1
    exact ⟨Bu.refl _ _, dats_nth (DatAll.up (res_up L.up) all) e2⟩⟩⟩
theorem sql_bu {a : Addr} {xs : List V} (x : Bu W.β H1 H2) (h : SqL K (res (okw W) H1) a xs) : SqL K H2 a xs := sql_sub res_sub (sql_sub (resw_up x) h)
theorem itr_own {a : Addr} {xs : List V} {ds : List PyData} (sq : SqL K (res (okw W) H1) a xs) (all : DatAll K (res (okg W ρ σ) H1) xs ds) : ItR K W ρ σ H1 (Itl K a) ds false :=
  ⟨_, _, (dats_len all) ▸ walk_list (K := K) (a := a) (xs := xs), fun W' ρ' σ' H' L b => ⟨sql_bu (b.resolve_left (by decide)) sq, fun i x H'' lt ⟨e1, e2⟩ => by
    subst e1
    exact ⟨Bu.refl _ _, dats_nth (DatAll.up (res_up L.up) all) e2⟩⟩⟩
theorem walk_cast {J : It} {n m : Nat} {G : Hp → Prop} {Y : Nat → Hp → V → Hp → Prop} (w : Walk J n G Y) (e : n = m) : Walk J m G Y := e ▸ w
theorem itr_str {z : Str} {ok : Bool} : ItR K W ρ σ H1 (Its z) (strX z) ok :=
  ⟨_, _, walk_cast (walk_str (z := z)) (show z.cps.size = (strX z).length by simp [strX]), fun W' ρ' σ' H' L _ => ⟨trivial, fun i x H'' lt ⟨e1, c, e2, e3⟩ => by
    subst e1 e3
    refine ⟨Bu.refl _ _, .str ⟨#[c]⟩, ?_, .str _⟩
    unfold strX
    have : z.cps.toList[i]? = some c := by simpa using e2
    rw [List.getElem?_map, this]
    rfl⟩⟩
/-- a list that is read with its parts good, wherever it stands -/
theorem lst_w {ds : List PyData} {f : Fl} (S : Sim K W ρ σ H) (s : Bu W.β H H1) (h : ER K W ρ σ H H1 v (.d (.list ds) f)) (ok : (f.parts || pures ds) = true) : ∃ p xs, v = .ref p ∧ SqL K (res (okw W) H1) p xs ∧ DatAll K (res (okg W ρ σ) H1) xs ds := by
  cases f with
  | wk =>
    cases h with
    | @lst p xs _ sq all => exact ⟨p, xs, rfl, sq, pures_g S s (by simpa [Fl.parts] using ok) all⟩
  | gd =>
    cases h with
    | @lst p xs _ sq all => exact ⟨p, xs, rfl, sql_sub resg_w sq, all⟩
  | fr =>
    obtain ⟨p, e1, e2, vs, e4, all⟩ := h
    exact ⟨p, vs, e1, SqL.of (res_at.mpr ⟨(S.okg_new e2).1, e4⟩), DatAll.up resgp_g all⟩
  | ow =>
    obtain ⟨p, e1, e2, vs, e4, all⟩ := h
    exact ⟨p, vs, e1, SqL.of (res_at.mpr ⟨e2, e4⟩), all⟩
theorem sndi_seq {te : TE} {w : DE} (h : Snd K te w) : SndI K (iSeq K te) (dIter w) := ⟨fun W ρ σ H P R S hw q =>
  h.go W ρ σ H _ _ S hw fun r v H1 s1 e1 p1 => by
    cases r with
    | bag => exact p1.elim
    | d x f =>
      cases x with
      | list ds =>
        cases ef : f.good with
        | true =>
          have p : P ds true := by
            have z : wIter (.list ds) f P := p1
            unfold wIter at z
            rw [ef] at z
            exact z
          have g := ER.gd S s1 e1 (by rw [ef]; rfl)
          cases g with
          | @lst a xs _ sq all => exact .inl ⟨a, rfl, ⟨xs, sql_sub res_sub sq⟩, q ds true _ H1 s1 (itr_good sq all) p⟩
        | false =>
          have p : (f.parts || pures ds) = true ∧ P ds false := by
            have z : wIter (.list ds) f P := p1
            unfold wIter at z
            rw [ef] at z
            exact z
          obtain ⟨a, xs, rfl, sq, all⟩ := lst_w S s1 e1 p.1
          exact .inl ⟨a, rfl, ⟨xs, sql_sub res_sub sq⟩, q ds false _ H1 s1 (itr_own sq all) p.2⟩
      | tuple ds =>
        have g := ER.gd S s1 e1 p1.1
        cases g with
        | @tup a xs _ sq all => exact .inr (.inl ⟨a, rfl, ⟨xs, sqt_sub res_sub sq⟩, q ds true _ H1 s1 (itr_tup sq all) p1.2⟩)
      | str z =>
        cases ER.flat S s1 rfl e1
        exact .inr (.inr ⟨z, rfl, q _ true _ H1 s1 itr_str p1⟩)
      | _ => exact p1.elim⟩
/-- a pair that a walk makes -/
theorem pair_new {W' : Wd} {ρ' : Ro} {σ' : L2.St} {H' : Hp} {T : Addr} {x y : V} {dx dy : PyData} (S : Sim K W' ρ' σ' H') (n : H' T = none) (hx : Dat K (res (okg W' ρ' σ') H') x dx) (hy : Dat K (res (okg W' ρ' σ') H') y dy) :
    Dat K (res (okg W' ρ' σ') (upd H' T (.tup [x, y]))) (.ref T) (.tuple [dx, dy]) := by
  have up : ∀ p o, res (okg W' ρ' σ') H' p = some o → res (okg W' ρ' σ') (upd H' T (.tup [x, y])) p = some o := res_up fun p o k e => ⟨k, same_new n _ _ e⟩
  exact .tup (.inl (.inl (res_at.mpr ⟨S.okg_new n, upd_same⟩))) (.cons (Dat.up up hx) (.cons (Dat.up up hy) .nil))
def enumD (ds : List PyData) : List PyData := ds.zipIdx.map fun p => .tuple [.int (p.2 : Nat), p.1]
theorem enumD_len {ds : List PyData} : (enumD ds).length = ds.length := by simp [enumD]
theorem enumD_at {ds : List PyData} {i : Nat} {z : PyData} (e : ds[i]? = some z) : (enumD ds)[i]? = some (.tuple [.int (i : Nat), z]) := by
  unfold enumD
  rw [List.getElem?_map, List.getElem?_zipIdx, e]
  simp
def wEnum (rs : List Dv) (P : List PyData → Bool → Prop) : Prop := match rs with
  | [.d (.list ds) f] => (f.parts || pures ds) = true ∧ P (enumD ds) f.good
  | [.d (.tuple ds) f] => goodF f (.tuple ds) = true ∧ P (enumD ds) true
  | _ => False
def dEnum (wa : DA) : DI := fun ρ P => wa ρ fun rs => wEnum rs P
theorem sql_good {ds : List PyData} {f : Fl} (S : Sim K W ρ σ H) (s : Bu W.β H H1) (h : ER K W ρ σ H H1 v (.d (.list ds) f)) (ok : (f.parts || pures ds) = true) : ∃ p xs, v = .ref p ∧ SqL K H1 p xs ∧ DatAll K (res (okg W ρ σ) H1) xs ds ∧
    ∀ W' ρ' σ' H', Later K W ρ σ H1 W' ρ' σ' H' → f.good = true ∨ Bu W.β H1 H' → SqL K H' p xs := by
  cases ef : f.good with
  | true =>
    have g := ER.gd S s h (by rw [ef]; rfl)
    cases g with
    | @lst a xs _ sq all => exact ⟨a, xs, rfl, sql_sub res_sub sq, all, fun W' ρ' σ' H' L _ => sql_sub res_sub (sql_sub (res_up L.up) sq)⟩
  | false =>
    obtain ⟨a, xs, e, sq, all⟩ := lst_w S s h ok
    exact ⟨a, xs, e, sql_sub res_sub sq, all, fun W' ρ' σ' H' L b => sql_bu (b.resolve_left (by decide)) sq⟩
theorem sqt_good {ds : List PyData} {f : Fl} (S : Sim K W ρ σ H) (s : Bu W.β H H1) (h : ER K W ρ σ H H1 v (.d (.tuple ds) f)) (ok : goodF f (.tuple ds) = true) : ∃ p xs, v = .ref p ∧ SqT K H1 p xs ∧ DatAll K (res (okg W ρ σ) H1) xs ds ∧
    ∀ W' ρ' σ' H', Later K W ρ σ H1 W' ρ' σ' H' → SqT K H' p xs := by
  have g := ER.gd S s h ok
  cases g with
  | @tup a xs _ sq all => exact ⟨a, xs, rfl, sqt_sub res_sub sq, all, fun W' ρ' σ' H' L => sqt_sub res_sub (sqt_sub (res_up L.up) sq)⟩
theorem sndi_enum {ta : TA} {wa : DA} (h : SndA K ta wa) : SndI K (iEnumA K ta) (dEnum wa) := ⟨fun W ρ σ H P R S hw q =>
  h.go W ρ σ H _ _ S hw fun rs vs H1 s1 e1 p1 => by
    unfold wEnum at p1
    split at p1
    · rename_i ds f
      obtain ⟨v, rfl, e⟩ := one_of e1
      obtain ⟨a, xs, rfl, sq, all, st⟩ := sql_good S s1 e p1.1
      refine ⟨a, xs, rfl, .inl ⟨sq, q _ f.good _ H1 s1 ⟨_, _, (dats_len all).trans enumD_len.symm ▸ walk_enum (K := K) (a := a) (xs := xs), fun W' ρ' σ' H' L b => ⟨st W' ρ' σ' H' L b, fun i x H'' lt y => ?_⟩⟩ p1.2⟩⟩
      obtain ⟨T, x1, y1, rfl, n, rfl, q1, q2⟩ := y
      obtain ⟨z, ez, dz⟩ := dats_nth (DatAll.up (res_up L.up) all) q2
      cases q1
      exact ⟨Bu.of (same_new n), _, enumD_at ez, pair_new L.sim n (.int _) dz⟩
    · rename_i ds f
      obtain ⟨v, rfl, e⟩ := one_of e1
      obtain ⟨a, xs, rfl, sq, all, st⟩ := sqt_good S s1 e p1.1
      refine ⟨a, xs, rfl, .inr ⟨sq, q _ true _ H1 s1 ⟨_, _, (dats_len all).trans enumD_len.symm ▸ walk_enumT (K := K) (a := a) (xs := xs), fun W' ρ' σ' H' L b => ⟨st W' ρ' σ' H' L, fun i x H'' lt y => ?_⟩⟩ p1.2⟩⟩
      obtain ⟨T, x1, y1, rfl, n, rfl, q1, q2⟩ := y
      obtain ⟨z, ez, dz⟩ := dats_nth (DatAll.up (res_up L.up) all) q2
      cases q1
      exact ⟨Bu.of (same_new n), _, enumD_at ez, pair_new L.sim n (.int _) dz⟩
    · exact p1.elim⟩
def zipD (ds es : List PyData) : List PyData := List.zipWith (fun a b => .tuple [a, b]) ds es
def wZip (rs : List Dv) (P : List PyData → Bool → Prop) : Prop := match rs with
  | [.d (.list ds) f, .d (.list es) g] => (f.parts || pures ds) = true ∧ (g.parts || pures es) = true ∧ P (zipD ds es) (f.good && g.good)
  | [.d (.tuple ds) f, .d (.tuple es) g] => goodF f (.tuple ds) = true ∧ goodF g (.tuple es) = true ∧ P (zipD ds es) true
  | _ => False
def dZip (wa : DA) : DI := fun ρ P => wa ρ fun rs => wZip rs P
theorem zipD_at {ds es : List PyData} {i : Nat} {y z : PyData} (e1 : ds[i]? = some y) (e2 : es[i]? = some z) : (zipD ds es)[i]? = some (.tuple [y, z]) := by
  unfold zipD
  rw [List.getElem?_zipWith, e1, e2]
theorem sndi_zip {ta : TA} {wa : DA} (h : SndA K ta wa) : SndI K (RZ.iZipA K ta) (dZip wa) := ⟨fun W ρ σ H P R S hw q =>
  h.go W ρ σ H _ _ S hw fun rs vs H1 s1 e1 p1 => by
    unfold wZip at p1
    split at p1
    · rename_i ds f es g
      obtain ⟨v, u, rfl, e, e2⟩ := two_of_ e1
      obtain ⟨a, xs, rfl, sq, all, st⟩ := sql_good S s1 e p1.1
      obtain ⟨b, ys, rfl, sq2, all2, st2⟩ := sql_good S s1 e2 p1.2.1
      have n1 : (zipD ds es).length = min xs.length ys.length := by unfold zipD; rw [List.length_zipWith, dats_len all, dats_len all2]
      refine ⟨a, b, xs, ys, rfl, .inl ⟨sq, sq2, q _ _ _ H1 s1 ⟨_, _, walk_zip (K := K) (a := a) (b := b) (xs := xs) (ys := ys) n1, fun W' ρ' σ' H' L k => ⟨⟨st W' ρ' σ' H' L ?_, st2 W' ρ' σ' H' L ?_⟩, fun i x H'' lt y => ?_⟩⟩ p1.2.2⟩⟩
      · exact k.imp (fun z => by rw [Bool.and_eq_true] at z; exact z.1) fun z => z
      · exact k.imp (fun z => by rw [Bool.and_eq_true] at z; exact z.2) fun z => z
      · obtain ⟨T, x1, y1, rfl, n, rfl, q1, q2⟩ := y
        obtain ⟨z, ez, dz⟩ := dats_nth (DatAll.up (res_up L.up) all) q1
        obtain ⟨z2, ez2, dz2⟩ := dats_nth (DatAll.up (res_up L.up) all2) q2
        exact ⟨Bu.of (same_new n), _, zipD_at ez ez2, pair_new L.sim n dz dz2⟩
    · rename_i ds f es g
      obtain ⟨v, u, rfl, e, e2⟩ := two_of_ e1
      obtain ⟨a, xs, rfl, sq, all, st⟩ := sqt_good S s1 e p1.1
      obtain ⟨b, ys, rfl, sq2, all2, st2⟩ := sqt_good S s1 e2 p1.2.1
      have n1 : (zipD ds es).length = min xs.length ys.length := by unfold zipD; rw [List.length_zipWith, dats_len all, dats_len all2]
      refine ⟨a, b, xs, ys, rfl, .inr ⟨sq, sq2, q _ true _ H1 s1 ⟨_, _, walk_zipT (K := K) (a := a) (b := b) (xs := xs) (ys := ys) n1, fun W' ρ' σ' H' L k => ⟨⟨st W' ρ' σ' H' L, st2 W' ρ' σ' H' L⟩, fun i x H'' lt y => ?_⟩⟩ p1.2.2⟩⟩
      obtain ⟨T, x1, y1, rfl, n, rfl, q1, q2⟩ := y
      obtain ⟨z, ez, dz⟩ := dats_nth (DatAll.up (res_up L.up) all) q1
      obtain ⟨z2, ez2, dz2⟩ := dats_nth (DatAll.up (res_up L.up) all2) q2
      exact ⟨Bu.of (same_new n), _, zipD_at ez ez2, pair_new L.sim n dz dz2⟩
    · exact p1.elim⟩
/-- range -/
def rngD (lo : Int) (n : Nat) : List PyData := (List.range n).map fun i => .int (lo + (i : Nat))
def wRng1 (rs : List Dv) (P : List PyData → Bool → Prop) : Prop := match rs with
  | [.d (.int j) _] => -(2 ^ 62) ≤ j ∧ j < 2 ^ 62 ∧ P (rngD 0 j.toNat) true
  | _ => False
def wRng2 (rs : List Dv) (P : List PyData → Bool → Prop) : Prop := match rs with
  | [.d (.int i) _, .d (.int j) _] => (-(2 ^ 62) ≤ i ∧ i < 2 ^ 62 ∧ -(2 ^ 62) ≤ j ∧ j < 2 ^ 62) ∧ P (rngD i (j - i).toNat) true
  | _ => False
def dRng1 (wa : DA) : DI := fun ρ P => wa ρ fun rs => wRng1 rs P
def dRng2 (wa : DA) : DI := fun ρ P => wa ρ fun rs => wRng2 rs P
theorem itr_rng {lo : Int} {n : Nat} : ItR K W ρ σ H1 (Itr lo n) (rngD lo n) true :=
  ⟨_, _, walk_cast (walk_range (lo := lo) (n := n)) (show n = (rngD lo n).length by simp [rngD]), fun W' ρ' σ' H' L _ => ⟨trivial, fun i x H'' lt ⟨e1, e2⟩ => by
    subst e1 e2
    have lt' : i < n := by simpa [rngD] using lt
    refine ⟨Bu.refl _ _, .int (lo + (i : Nat)), ?_, .int _⟩
    unfold rngD
    rw [List.getElem?_map, List.getElem?_range lt']
    rfl⟩⟩
theorem sndi_rng1 {ta : TA} {wa : DA} (h : SndA K ta wa) : SndI K (iRng1 ta) (dRng1 wa) := ⟨fun W ρ σ H P R S hw q =>
  h.go W ρ σ H _ _ S hw fun rs vs H1 s1 e1 p1 => by
    unfold wRng1 at p1
    split at p1
    · obtain ⟨v, rfl, e⟩ := one_of e1
      cases ER.flat S s1 rfl e
      exact ⟨_, rfl, p1.1, p1.2.1, q _ true _ H1 s1 itr_rng p1.2.2⟩
    · exact p1.elim⟩
end
section
variable {X : Cx} {tg e e2 : Expr} {p pos tpos : Pos} {elts : List Expr} {kk : Nat} {te : TE} {ta : TA} {w : DE} {wa : DA}
theorem pdi_seq (h : PD X e te w) : PDI X tg e (iSeq X.K te) (dIter w) := ⟨pi_seq h.pe, sndi_seq h.snd⟩
theorem pdi_enum (hg : Gl X "enumerate") (hm : X.mg "enumerate" = none) (h : PDA X [e] ta wa) (hs : starEach [e] X.env = [(false, eval e X.env)] := by rfl) : PDI X (.Tuple elts kk tpos) (.Call (.Name "enumerate" p) [e] [] pos) (iEnumA X.K ta) (dEnum wa) := ⟨pi_enumA hg hm h.pa hs, sndi_enum h.snd⟩
theorem pdi_zip (hg : Gl X "zip") (hm : X.mg "zip" = none) (h : PDA X [e, e2] ta wa) (hs : starEach [e, e2] X.env = (false, eval e X.env) :: starEach [e2] X.env := by rfl) (hpl : (backTo pos (starEach [e2] X.env)).any (·.1) = false := by rfl) :
    PDI X (.Tuple elts kk tpos) (.Call (.Name "zip" p) [e, e2] [] pos) (RZ.iZipA X.K ta) (dZip wa) := ⟨RZ.pi_zipA hg hm h.pa hs hpl, sndi_zip h.snd⟩
theorem pdi_rng1 (h : PDA X [e] ta wa) (hi : PI X tg (.Call (.Name "range" p) [e] [] pos) (iRng1 ta)) : PDI X tg (.Call (.Name "range" p) [e] [] pos) (iRng1 ta) (dRng1 wa) := ⟨hi, sndi_rng1 h.snd⟩
end
/-! ### for -/
def forL (wg : WG) (wb : DS) : List PyData → DEnds → Ro → Prop
  | [], De, ρ => De.nx ρ
  | d :: ds, De, ρ => wg (.d d .gd) ρ fun ρ' => wb { De with nx := forL wg wb ds De, ct := forL wg wb ds De, bk := De.nx } ρ'
def dFor (wi : DI) (wg : WG) (wb : DS) : DS := fun De ρ => wi ρ fun ds ok => ok = true ∧ forL wg wb ds De ρ
section
variable {K : PySem.W.Frag} {X : Cx}
theorem snds_for {wi : TI} {g : TG} {tb : TS} {di : DI} {wg : WG} {wb : DS} {sl : List Nat} (hi : SndI K wi di) (hg : SndG K g sl wg) (hb : SndS K tb wb) : SndS K (tFor wi g tb) (dFor di wg wb) := ⟨fun W ρ σ H De D S hw L => by
  refine hi.go W ρ σ H _ _ S hw fun ds ok J H1 s1 it p => ?_
  obtain ⟨rfl, p⟩ := p
  obtain ⟨G, Y, walk, all⟩ := it
  have S1 := S.step s1
  have L1 := L.fwd (Fwd.step s1)
  refine for_it walk (fun i σ' H' => i ≤ ds.length ∧ ∃ ρ', Sim K W ρ' σ' H' ∧ Fwd W ρ σ H1 ρ' σ' H' ∧ forL wg wb (ds.drop i) De ρ') ⟨Nat.zero_le _, ρ, S1, Fwd.refl, p⟩ (fun i σ' H' _ ⟨_, ρ', S', f, _⟩ => (all W ρ' σ' H' ⟨S', rfl, f⟩ (.inl rfl)).1) ?_ ?_
  · rintro i x σ' H' H'' lt ⟨_, ρ', S', f, p⟩ y
    obtain ⟨b, z, ez, dz⟩ := (all W ρ' σ' H' ⟨S', rfl, f⟩ (.inl rfl)).2 i x H'' lt y
    have ed : ds.drop i = z :: ds.drop (i + 1) := by
      rw [List.drop_eq_getElem_cons lt]
      have := (List.getElem?_eq_some_iff.mp ez).2
      rw [this]
    rw [ed] at p
    refine hg.go W ρ' σ' H' H'' x (.d z .gd) _ _ S' b dz p fun ρ2 σ2 S2 f2 _ p2 => ?_
    have F2 := f.trans f2
    refine hb.go W ρ2 σ2 H'' _ _ S2 p2 ⟨fun ρ3 σ3 H3 S3 f3 p3 => ⟨lt, ρ3, S3, F2.trans f3, p3⟩, L.rt, fun ρ3 σ3 H3 S3 f3 p3 => L1.nx ρ3 σ3 H3 S3 (F2.trans f3) p3, fun ρ3 σ3 H3 S3 f3 p3 => ⟨lt, ρ3, S3, F2.trans f3, p3⟩⟩
  · rintro σ' H' ⟨_, ρ', S', f, p⟩
    rw [List.drop_length] at p
    exact L1.nx ρ' σ' H' S' f p⟩
theorem pds_for {tg iter : Expr} {body : List Stmt} {wi : TI} {g : TG} {tb : TS} {di : DI} {wg : WG} {wb : DS} {sl : List Nat} {pos : Pos} (hp : PassesOwn (model X.prog X.w) X.A X.env X.xe) (hc : X.calm = true) (hi : PDI X tg iter wi di) (hg : PDG X tg g sl wg) (hb : PDSs X body tb wb)
    (hs : ∀ x, foldedSetIterable iter X.env x = pure x := by intro _; rfl) : PDS X (.For tg iter body [] pos) (tFor wi g tb) (dFor di wg wb) := ⟨ps_for hp hc hi.pi hg.pg hb.pss hs, snds_for hi.snd hg.snd hb.snd⟩
/-! ### while -/
def whl (c : DT) (b : DS) (De : DEnds) : Nat → Ro → Prop
  | 0, _ => False
  | n + 1, ρ => c ρ fun k => if k = true then b { De with nx := whl c b De n, ct := whl c b De n, bk := De.nx } ρ else De.nx ρ
def dWhile (c : DT) (b : DS) : DS := fun De ρ => ∃ n, whl c b De n ρ
theorem snds_while {tc : TT} {tb : TS} {c : DT} {b : DS} (hc : SndT K tc c) (hb : SndS K tb b) : SndS K (tWhile tc tb) (dWhile c b) := ⟨fun W ρ σ H De D S ⟨n, hw⟩ L => by
  refine ⟨fun m σ' H' => ∃ ρ', Sim K W ρ' σ' H' ∧ Fwd W ρ σ H ρ' σ' H' ∧ whl c b De m ρ', ⟨n, ρ, S, Fwd.refl, hw⟩, ?_⟩
  rintro m σ' H' ⟨ρ', S', f, p⟩
  cases m with
  | zero => exact p.elim
  | succ m =>
    refine hc.go W ρ' σ' H' _ _ S' p fun k H1 s1 p1 => ?_
    have S1 := S'.step s1
    have f1 := f.trans (Fwd.step s1)
    cases k with
    | true =>
      refine (if_pos rfl).mpr ⟨fun σ2 H2 => ∃ ρ2, Sim K W ρ2 σ2 H2 ∧ Fwd W ρ σ H ρ2 σ2 H2 ∧ whl c b De m ρ2, fun σ2 H2 h => ⟨m, Nat.lt_succ_self _, h⟩, ?_⟩
      refine hb.go W ρ' σ' H1 { De with nx := whl c b De m, ct := whl c b De m, bk := De.nx } _ S1 (by simpa using p1) ⟨fun ρ3 σ3 H3 S3 f3 p3 => ⟨ρ3, S3, f1.trans f3, p3⟩, L.rt, fun ρ3 σ3 H3 S3 f3 p3 => L.nx ρ3 σ3 H3 S3 (f1.trans f3) p3, fun ρ3 σ3 H3 S3 f3 p3 => ⟨ρ3, S3, f1.trans f3, p3⟩⟩
    | false => exact (if_neg (by decide)).mpr (L.nx ρ' σ' H1 S1 f1 (by simpa using p1))⟩
theorem pds_while {c : Expr} {body : List Stmt} {tc : TT} {tb : TS} {wc : DT} {wb : DS} {pos : Pos} (hp : PassesOwn (model X.prog X.w) X.A X.env X.xe) (hc : PDT X c tc wc) (hb : PDSs X body tb wb) : PDS X (.While c body [] pos) (tWhile tc tb) (dWhile wc wb) := ⟨ps_while hp hc.pt hb.pss, snds_while hc.snd hb.snd⟩
end
end Pd

/-! D8: list comprehensions by data -/
namespace Pd
open PySem PySem.Spec PyProof.Rows L2 Vd
open Classical
def wipeR (ρ : Ro) : List Nat → Ro
  | [] => ρ
  | v :: vs => (wipeR ρ vs).set v .un
def noOwnAt (ρ : Ro) : List Nat → Bool
  | [] => true
  | v :: vs => (match ρ[v]? with
    | some (.own _) => false
    | _ => true) && noOwnAt ρ vs
theorem noOwnAt_no {ρ : Ro} {x : PyData} : ∀ {vs : List Nat} {i : Nat}, noOwnAt ρ vs = true → i ∈ vs → ρ[i]? = some (.own x) → False
  | v :: vs, i, h, m, e => by
    simp only [noOwnAt, Bool.and_eq_true] at h
    cases m with
    | head => rw [e] at h; exact Bool.noConfusion h.1
    | tail _ m => exact noOwnAt_no h.2 m e
theorem wipe_len {σ : L2.St} : ∀ {vs : List Nat}, (wipe σ vs).length = σ.length
  | [] => rfl
  | v :: vs => by unfold wipe; rw [List.length_set, wipe_len (vs := vs)]
theorem wipe_out {σ : L2.St} : ∀ {vs : List Nat} {j : Nat}, j ∉ vs → (wipe σ vs)[j]? = σ[j]?
  | [], _, _ => rfl
  | v :: vs, j, n => by
    unfold wipe
    rw [List.getElem?_set_ne (fun z => n (by rw [z]; exact List.mem_cons_self ..)), wipe_out fun z => n (List.mem_cons_of_mem _ z)]
theorem wipe_in {σ : L2.St} : ∀ {vs : List Nat} {j : Nat}, j ∈ vs → j < σ.length → (wipe σ vs)[j]? = some none
  | v :: vs, j, m, lt => by
    unfold wipe
    by_cases e : v = j
    · subst e
      rw [List.getElem?_set_self (by rw [wipe_len]; exact lt)]
    · rw [List.getElem?_set_ne e]
      exact wipe_in (by rcases List.mem_cons.mp m with z | z; exact absurd z.symm e; exact z) lt
theorem wipe_eq {σ σ2 : L2.St} {vs : List Nat} (len : σ2.length = σ.length) (h : ∀ j, j ∉ vs → σ2[j]? = σ[j]?) : wipe σ2 vs = wipe σ vs := by
  apply List.ext_getElem?
  intro j
  by_cases m : j ∈ vs
  · by_cases lt : j < σ.length
    · rw [wipe_in m (by omega), wipe_in m lt]
    · rw [List.getElem?_eq_none (by rw [wipe_len]; omega), List.getElem?_eq_none (by rw [wipe_len]; omega)]
  · rw [wipe_out m, wipe_out m, h j m]
theorem wipeR_out {ρ : Ro} : ∀ {vs : List Nat} {j : Nat}, j ∉ vs → (wipeR ρ vs)[j]? = ρ[j]?
  | [], _, _ => rfl
  | v :: vs, j, n => by
    unfold wipeR
    rw [List.getElem?_set_ne (fun z => n (by rw [z]; exact List.mem_cons_self ..)), wipeR_out fun z => n (List.mem_cons_of_mem _ z)]
theorem wipeR_in {ρ : Ro} {s : Sl} : ∀ {vs : List Nat} {j : Nat}, j ∈ vs → (wipeR ρ vs)[j]? = some s → s = .un
  | v :: vs, j, m, e => by
    unfold wipeR at e
    by_cases q : v = j
    · subst q
      have lt := (List.getElem?_eq_some_iff.mp e).1
      rw [List.length_set] at lt
      rw [List.getElem?_set_self lt] at e
      exact (Option.some.inj e).symm
    · rw [List.getElem?_set_ne q] at e
      exact wipeR_in (by rcases List.mem_cons.mp m with z | z; exact absurd z.symm q; exact z) e
section
variable {K : PySem.W.Frag} {W : Wd} {ρ : Ro} {σ : L2.St} {H H1 H2 : Hp} {v : V}
theorem sim_wipe (S : Sim K W ρ σ H) : ∀ vs : List Nat, Sim K W (wipeR ρ vs) (wipe σ vs) H ∧ Fwd W ρ σ H (wipeR ρ vs) (wipe σ vs) H
  | [] => ⟨S, Fwd.refl⟩
  | v :: vs => by
    obtain ⟨S1, f1⟩ := sim_wipe S vs
    obtain ⟨S2, f2⟩ := sim_set (i := v) (s := .un) (u := none) S1 (Bu.refl _ _) (fun y p z => by cases z) trivial
    exact ⟨S2, f1.trans f2⟩
def hideW (W : Wd) (D : Addr) : Wd := { W with hide := fun p => W.hide p ∨ p = D }
theorem okg_hide {D p : Addr} (h : okg W ρ σ p) (n : p ≠ D) : okg (hideW W D) ρ σ p := ⟨⟨h.1.1, fun z => z.elim h.1.2.1 n, h.1.2.2⟩, h.2⟩
theorem hide_okg {D p : Addr} (h : okg (hideW W D) ρ σ p) : okg W ρ σ p ∧ p ≠ D := ⟨⟨⟨h.1.1, fun z => h.1.2.1 (.inl z), h.1.2.2⟩, h.2⟩, fun z => h.1.2.1 (.inr z)⟩
/-- a new cell that nothing refers to -/
theorem sim_hide {D : Addr} {o : HO} (S : Sim K W ρ σ H) (n : H D = none) : Sim K (hideW W D) ρ σ (upd H D o) := by
  have up : ∀ p u, res (okg W ρ σ) H p = some u → res (okg (hideW W D) ρ σ) (upd H D o) p = some u := res_up fun p u k e => ⟨okg_hide k (ne_of_none e n), same_new n _ _ e⟩
  refine ⟨S.len, S.bu.trans (Bu.of (same_new n)), S.bag, fun i s e => ?_, fun p h => ?_, S.apart⟩
  · have := S.at_ i s e
    cases s with
    | un => trivial
    | bag => exact this
    | dat d => obtain ⟨u, e1, e2⟩ := this; exact ⟨u, e1, Dat.up up e2⟩
    | own d =>
      obtain ⟨p, e1, e2, e3, e4⟩ := this
      obtain ⟨u, e5, _⟩ := e4.has
      exact ⟨p, e1, ⟨e2.1, fun z => z.elim e2.2.1 (ne_of_none e5 n), e2.2.2⟩, e3, e4.up up fun o e => same_new n _ _ e⟩
  · rcases h with h | h
    · obtain ⟨a, u, e⟩ := S.hid p h
      exact ⟨a, u, same_new n _ _ e⟩
    · subst h
      exact ⟨(S.new n).2.1, o, upd_same⟩
/-- the hidden cell is written -/
theorem sim_write {D : Addr} {o : HO} (S : Sim K W ρ σ H) (hd : W.hide D) (n : W.H0 D = none) : Sim K W ρ σ (upd H D o) := by
  have nb := (S.hid D hd).1
  have keep : ∀ p u, p ≠ D → H p = some u → upd H D o p = some u := fun p u ne e => by rw [upd_ne ne]; exact e
  have up : ∀ p u, res (okg W ρ σ) H p = some u → res (okg W ρ σ) (upd H D o) p = some u := res_up fun p u k e => ⟨k, keep p u (fun z => k.1.2.1 (z ▸ hd)) e⟩
  refine ⟨S.len, ?_, S.bag, fun i s e => ?_, fun p h => ?_, S.apart⟩
  · have b := S.bu
    cases eb : W.β with
    | none =>
      rw [eb] at b
      exact fun p u e => keep p u (ne_of_none e n) (b p u e)
    | some c =>
      rw [eb] at b nb
      refine ⟨fun p u ne e => keep p u (ne_of_none e n) (b.1 p u ne e), fun x y z c' e => ?_⟩
      obtain ⟨x', y', z', e'⟩ := b.2 x y z c' e
      exact ⟨x', y', z', keep _ _ (fun z => nb (by rw [z])) e'⟩
  · have := S.at_ i s e
    cases s with
    | un => trivial
    | bag => exact this
    | dat d => obtain ⟨u, e1, e2⟩ := this; exact ⟨u, e1, Dat.up up e2⟩
    | own d =>
      obtain ⟨p, e1, e2, e3, e4⟩ := this
      exact ⟨p, e1, e2, e3, e4.up up fun u e => keep p u (fun z => e2.2.1 (z ▸ hd)) e⟩
  · obtain ⟨a, u, e⟩ := S.hid p h
    by_cases z : p = D
    · subst z
      exact ⟨a, o, upd_same⟩
    · exact ⟨a, u, keep p u z e⟩
end
def lcL (wg : WG) (wt : DT) (we : DE) (ρw : Ro) : List PyData → List PyData → (List PyData → Prop) → Prop
  | [], acc, k => k acc
  | d :: ds, acc, k => wg (.d d .gd) ρw fun ρ2 => wt ρ2 fun b => if b = true then we ρ2 fun r => onD r fun x f => goodF f x = true ∧ acc.length < 1000000 ∧ lcL wg wt we ρw ds (acc ++ [x]) k else lcL wg wt we ρw ds acc k
def dLc (di : DI) (wg : WG) (wt : DT) (we : DE) (vs : List Nat) : DE := fun ρ P => di ρ fun ds _ => noOwnAt ρ vs = true ∧ lcL wg wt we (wipeR ρ vs) ds [] fun acc => P (.d (.list acc) .fr)
section
variable {K : PySem.W.Frag} {X : Cx}
theorem snd_lc {wi : TI} {g : TG} {tt : TT} {te : TE} {di : DI} {wg : WG} {wt : DT} {we : DE} {sl vs : List Nat} (hi : SndI K wi di) (hg : SndG K g sl wg) (ht : SndT K tt wt) (he : Snd K te we) (sub : ∀ i ∈ sl, i ∈ vs) : Snd K (tLc wi g tt te vs) (dLc di wg wt we vs) := ⟨fun W ρ σ H P Q S hw q => by
  refine hi.go W ρ σ H _ _ S hw fun ds ok J H1 s1 it p => ?_
  obtain ⟨no, p⟩ := p
  obtain ⟨G, Y, walk, all⟩ := it
  have S1 := S.step s1
  intro D nD
  have n0 : W.H0 D = none := (S1.new nD).1
  have Sd : Sim K (hideW W D) (wipeR ρ vs) (wipe σ vs) (upd H1 D (.lst [])) := (sim_wipe (sim_hide S1 nD) vs).1
  -- the own ones are those of the outer state
  have ownIn : ∀ a, IsOwn ρ σ a → IsOwn (wipeR ρ vs) (wipe σ vs) a := fun a ⟨j, x, e1, e2⟩ => by
    have nj : j ∉ vs := fun m => noOwnAt_no no m e1
    exact ⟨j, x, by rw [wipeR_out nj]; exact e1, by rw [wipe_out nj]; exact e2⟩
  have ownOut : ∀ a, IsOwn (wipeR ρ vs) (wipe σ vs) a → IsOwn ρ σ a := fun a ⟨j, x, e1, e2⟩ => by
    by_cases m : j ∈ vs
    · have := wipeR_in m e1
      cases this
    · exact ⟨j, x, by rw [← wipeR_out m]; exact e1, by rw [← wipe_out m]; exact e2⟩
  have later : ∀ H', Sim K (hideW W D) (wipeR ρ vs) (wipe σ vs) H' → Bu W.β H1 H' → Later K W ρ σ H1 (hideW W D) (wipeR ρ vs) (wipe σ vs) H' := fun H' S' x => ⟨S', rfl, fun a o k e => ⟨⟨(okg_hide k (ne_of_none e nD)).1, fun z => k.2 (ownOut a z)⟩, x.at k.1.2.2 e⟩⟩
  refine lc_it walk (fun i H' => i ≤ ds.length ∧ Sim K (hideW W D) (wipeR ρ vs) (wipe σ vs) H' ∧ Bu W.β H1 H' ∧ ∃ ws acc, H' D = some (.lst ws) ∧ DatAll K (res (okg (hideW W D) (wipeR ρ vs) (wipe σ vs)) H') ws acc ∧ lcL wg wt we (wipeR ρ vs) (ds.drop i) acc fun acc => P (.d (.list acc) .fr))
    ⟨Nat.zero_le _, Sd, Bu.of (same_new nD), [], [], upd_same, .nil, p⟩ (fun i H' _ ⟨_, S', x, _⟩ => (all _ _ _ H' (later H' S' x) (.inr x)).1) ?_ ?_
  · rintro i x H' H'' lt ⟨_, S', xb, ws, acc, at_D, accs, p⟩ y
    obtain ⟨b, z, ez, dz⟩ := (all _ _ _ H' (later H' S' xb) (.inr xb)).2 i x H'' lt y
    have ed : ds.drop i = z :: ds.drop (i + 1) := by
      rw [List.drop_eq_getElem_cons lt]
      have := (List.getElem?_eq_some_iff.mp ez).2
      rw [this]
    rw [ed] at p
    have b' : Bu (hideW W D).β H' H'' := b
    refine hg.go (hideW W D) _ _ H' H'' x (.d z .gd) _ _ S' b' dz p fun ρ2 σ2 S2 f2 o2 p2 => ?_
    have S'' := S'.step b'
    refine ⟨?_, ?_⟩
    · have lens : σ2.length = σ.length := by
        have e1 := S2.len
        rw [e1, o2.1, ← (sim_wipe S1 vs).1.len, wipe_len]
      exact wipe_eq lens fun j nj => by
        rw [(o2.2 j fun m => nj (sub j m)).2, wipe_out nj]
    · refine ht.go (hideW W D) ρ2 σ2 H'' _ _ S2 p2 fun c H3 s3 p3 => ?_
      have s3' : Bu W.β H'' H3 := s3
      have at_D3 : H3 D = some (.lst ws) := s3.at (S'.hid D (.inr rfl)).1 (b'.at (S'.hid D (.inr rfl)).1 at_D)
      have toW : ∀ {F : Hp}, ∀ a o, res (okg (hideW W D) ρ2 σ2) F a = some o → res (okg (hideW W D) (wipeR ρ vs) (wipe σ vs)) F a = some o := fun {F} => res_up fun a o k e => ⟨⟨k.1, fun ⟨j, w, q1, q2⟩ => by
        by_cases m : j ∈ vs
        · have := wipeR_in m q1
          cases this
        · have nj : j ∉ sl := fun z => m (sub j z)
          exact k.2 ⟨j, w, by rw [(o2.2 j nj).1]; exact q1, by rw [(o2.2 j nj).2]; exact q2⟩⟩, e⟩
      cases c with
      | false => exact (if_neg (by decide)).mpr ⟨lt, S''.step s3, (xb.trans b).trans s3', ws, acc, at_D3, DatAll.up (resg_up (b'.trans s3)) accs, by simpa using p3⟩
      | true =>
        refine (if_pos rfl).mpr (he.go (hideW W D) ρ2 σ2 H3 _ _ (S2.step s3) (by simpa using p3) fun r y H4 s4 e4 p4 => ?_)
        cases r with
        | bag => exact p4.elim
        | d xd f =>
          obtain ⟨gd, few, p4⟩ := p4
          have dy := Dat.up toW (ER.gd (S2.step s3) s4 e4 gd)
          have s4' : Bu W.β H3 H4 := s4
          have at_D4 : H4 D = some (.lst ws) := s4.at (S'.hid D (.inr rfl)).1 at_D3
          have S4 := (S''.step s3).step s4
          have accs4 := DatAll.up (resg_up ((b'.trans s3).trans s4)) accs
          have wlen : ws.length = acc.length := dats_len accs
          have S5 : Sim K (hideW W D) (wipeR ρ vs) (wipe σ vs) (upd H4 D (.lst (ws ++ [y]))) := sim_write S4 (.inr rfl) n0
          have up5 : ∀ a o, res (okg (hideW W D) (wipeR ρ vs) (wipe σ vs)) H4 a = some o → res (okg (hideW W D) (wipeR ρ vs) (wipe σ vs)) (upd H4 D (.lst (ws ++ [y]))) a = some o := res_up fun a o k e => ⟨k, by rw [upd_ne (hide_okg k).2]; exact e⟩
          refine ⟨ws, at_D4, Nat.lt_of_lt_of_le (by omega) (len_line (n := 1000000) (Nat.le_refl _)), lt, S5, ?_, ws ++ [y], acc ++ [xd], upd_same, dats_app (DatAll.up up5 accs4) (.cons (Dat.up up5 dy) .nil), p4⟩
          have x4 : Bu W.β H1 H4 := ((xb.trans b).trans s3').trans s4'
          have nb := (S'.hid D (.inr rfl)).1
          have keep : ∀ a o, H1 a = some o → ∀ {u}, H4 a = some u → upd H4 D (.lst (ws ++ [y])) a = some u := fun a o e {u} e4 => by rw [upd_ne (ne_of_none e nD)]; exact e4
          cases eb : W.β with
          | none =>
            rw [eb] at x4
            exact fun a o e => keep a o e (x4 a o e)
          | some c =>
            rw [eb] at x4
            refine ⟨fun a o ne e => keep a o e (x4.1 a o ne e), fun i1 i2 i3 c' e => ?_⟩
            obtain ⟨x', y', z', e'⟩ := x4.2 i1 i2 i3 c' e
            exact ⟨x', y', z', keep _ _ e e'⟩
  · rintro H' ⟨_, S', xb, ws, acc, at_D, accs, p⟩
    rw [List.drop_length] at p
    refine q (.d (.list acc) .fr) _ H' (s1.trans xb) ⟨D, rfl, s1.back S.now nD, ws, at_D, DatAll.up (res_up fun a o k e => ⟨⟨⟨(hide_okg k).1.1, fun z => k.2 (ownIn a z)⟩, (hide_okg k).2⟩, e⟩) accs⟩ p⟩
end
end Pd

/-! D9: a list of one's own changes; more kinds of stores -/
namespace Pd
open PySem PySem.Spec PyProof.Rows L2 Vd
open Classical
section
variable {K : PySem.W.Frag} {W : Wd} {ρ : Ro} {σ : L2.St} {H H1 H2 : Hp} {v : V}
theorem sim_own {i : Nat} {x : PyData} (S : Sim K W ρ σ H) (e : ρ[i]? = some (.own x)) : ∃ p, σ[i]? = some (some (V.ref p)) ∧ okw W p ∧ W.H0 p = none ∧ Cell K (res (okg W ρ σ) H) H p x := by
  have lt : i < σ.length := by
    rw [S.len]
    exact (List.getElem?_eq_some_iff.mp e).1
  obtain ⟨p, e1, o1, o2, c⟩ := S.at_ i _ e
  refine ⟨p, ?_, o1, o2, c⟩
  rw [List.getElem?_eq_getElem lt] at e1 ⊢
  simpa using e1
/-- the own cell of slot i is written -/
theorem sim_mut {i : Nat} {x y : PyData} {p : Addr} {o : HO} (S : Sim K W ρ σ H) (e : ρ[i]? = some (.own x)) (ep : σ[i]? = some (some (V.ref p))) (ok : okw W p) (n0 : W.H0 p = none)
    (new : Cell K (res (okg W ρ σ) H) (upd H p o) p y) : Sim K W (ρ.set i (.own y)) σ (upd H p o) ∧ Fwd W ρ σ H (ρ.set i (.own y)) σ (upd H p o) := by
  have lt : i < ρ.length := (List.getElem?_eq_some_iff.mp e).1
  have ownEq : ∀ q, IsOwn (ρ.set i (.own y)) σ q → IsOwn ρ σ q := fun q ⟨j, z, e1, e2⟩ => by
    by_cases ij : i = j
    · subst ij
      exact ⟨i, x, e, e2⟩
    · rw [List.getElem?_set_ne ij] at e1
      exact ⟨j, z, e1, e2⟩
  have apart_p : ∀ q, okg W ρ σ q → q ≠ p := fun q k z => k.2 ⟨i, x, e, by rw [z]; exact ep⟩
  have keep : ∀ q u, okg W ρ σ q → H q = some u → okg W (ρ.set i (.own y)) σ q ∧ upd H p o q = some u := fun q u k e' => ⟨⟨k.1, fun z => k.2 (ownEq q z)⟩, by rw [upd_ne (apart_p q k)]; exact e'⟩
  have up := res_up keep
  refine ⟨⟨by rw [List.length_set]; exact S.len, ?_, S.bag, fun j s e' => ?_, fun q h => ?_, fun j k a b q jk e1 e2 e3 e4 => ?_⟩, keep⟩
  · have b := S.bu
    cases eb : W.β with
    | none =>
      rw [eb] at b
      exact fun q u e' => by rw [upd_ne (ne_of_none e' n0)]; exact b q u e'
    | some c =>
      rw [eb] at b
      refine ⟨fun q u ne e' => by rw [upd_ne (ne_of_none e' n0)]; exact b.1 q u ne e', fun i1 i2 i3 c' e' => ?_⟩
      obtain ⟨x', y', z', e''⟩ := b.2 i1 i2 i3 c' e'
      exact ⟨x', y', z', by rw [upd_ne (fun z => ok.2.2 (by rw [eb, z]))]; exact e''⟩
  · by_cases ij : i = j
    · subst ij
      rw [List.getElem?_set_self lt] at e'
      cases e'
      exact ⟨p, by rw [ep]; rfl, ok, n0, new.up up fun u z => z⟩
    · rw [List.getElem?_set_ne ij] at e'
      have := S.at_ j s e'
      cases s with
      | un => trivial
      | bag => exact this
      | dat d => obtain ⟨u, e1, e2⟩ := this; exact ⟨u, e1, Dat.up up e2⟩
      | own d =>
        obtain ⟨q, e1, e2, e3⟩ := sim_own S e'
        refine ⟨q, by rw [e1]; rfl, e2, e3.1, e3.2.up up fun u z => ?_⟩
        have : q ≠ p := fun z2 => S.apart i j x d p ij e e' ep (by rw [e1, z2])
        rw [upd_ne this]
        exact z
  · obtain ⟨a, u, e'⟩ := S.hid q h
    have : q ≠ p := fun z => ok.2.1 (z ▸ h)
    exact ⟨a, u, by rw [upd_ne this]; exact e'⟩
  · have old : ∀ {m : Nat} {c : PyData}, (ρ.set i (.own y))[m]? = some (.own c) → ∃ c', ρ[m]? = some (.own c') := fun {m c} q => by
      by_cases im : i = m
      · subst im
        exact ⟨x, e⟩
      · rw [List.getElem?_set_ne im] at q
        exact ⟨c, q⟩
    obtain ⟨a', e1'⟩ := old e1
    obtain ⟨b', e2'⟩ := old e2
    exact S.apart j k a' b' q jk e1' e2' e3 e4
end
/-- a list of one's own in slot i -/
def ownL (i : Nat) (ρ : Ro) (k : List PyData → Prop) : Prop := match ρ[i]? with
  | some (.own (.list ds)) => k ds
  | _ => False
theorem ownL_is {i : Nat} {ρ : Ro} {k : List PyData → Prop} (h : ownL i ρ k) : ∃ ds, ρ[i]? = some (.own (.list ds)) ∧ k ds := by
  unfold ownL at h
  split at h
  · rename_i ds e
    exact ⟨ds, e, h⟩
  · exact h.elim
/-- xs.append(e) -/
def dApp (i : Nat) (w : DE) : DS := fun De ρ => ownL i ρ fun ds => w ρ fun r => onD r fun x f => goodF f x = true ∧ ds.length < 1000000 ∧ De.nx (ρ.set i (.own (.list (ds ++ [x]))))
/-- xs.extend(e) -/
def extD (x : PyData) (f : Fl) (k : List PyData → Prop) : Prop := match x with
  | .list es => (f = .fr ∨ f = .ow) ∧ k es
  | .tuple es => goodF f x = true ∧ k es
  | _ => False
def dExt (i : Nat) (w : DE) : DS := fun De ρ => ownL i ρ fun ds => w ρ fun r => onD r fun x f => extD x f fun es => ds.length + es.length ≤ 1000000 ∧ De.nx (ρ.set i (.own (.list (ds ++ es))))
/-- xs.insert(k, e) -/
def insD (rs : List Dv) (k : Int → PyData → Prop) : Prop := match rs with
  | [.d (.int j) _, .d x f] => goodF f x = true ∧ 0 ≤ j ∧ j < 2 ^ 63 ∧ k j x
  | _ => False
def dIns (i : Nat) (wa : DA) : DS := fun De ρ => ownL i ρ fun ds => wa ρ fun rs => insD rs fun j x => ds.length < 1000000 ∧ De.nx (ρ.set i (.own (.list (ds.take j.toNat ++ [x] ++ ds.drop j.toNat))))
section
variable {K : PySem.W.Frag} {X : Cx}
theorem own_list {W : Wd} {ρ : Ro} {σ : L2.St} {H : Hp} {i : Nat} {ds : List PyData} (S : Sim K W ρ σ H) (e : ρ[i]? = some (.own (.list ds))) : ∃ p xs, σ[i]? = some (some (V.ref p)) ∧ okw W p ∧ W.H0 p = none ∧ H p = some (.lst xs) ∧ DatAll K (res (okg W ρ σ) H) xs ds := by
  obtain ⟨p, a, b, c, xs, d, f⟩ := sim_own S e
  exact ⟨p, xs, a, b, c, d, f⟩
theorem tyv_list {p : Addr} {xs : List V} {H : Hp} (h : H p = some (.lst xs)) : tyV K "list" (.ref p) H := .inl ⟨rfl, xs, SqL.of h⟩
theorem small_lt {n : Nat} (h : n < 1000000) : n < sizeLine := Nat.lt_of_lt_of_le h (len_line (n := 1000000) (Nat.le_refl _))
/-- the list written, by its new items -/
theorem mut_list {W : Wd} {ρ : Ro} {σ : L2.St} {H : Hp} {i : Nat} {ds es : List PyData} {p : Addr} {ys : List V} (S : Sim K W ρ σ H) (e : ρ[i]? = some (.own (.list ds))) (ep : σ[i]? = some (some (V.ref p))) (ok : okw W p) (n0 : W.H0 p = none)
    (all : DatAll K (res (okg W ρ σ) H) ys es) : Sim K W (ρ.set i (.own (.list es))) σ (upd H p (.lst ys)) ∧ Fwd W ρ σ H (ρ.set i (.own (.list es))) σ (upd H p (.lst ys)) :=
  sim_mut S e ep ok n0 ⟨ys, upd_same, all⟩
theorem snds_app {i : Nat} {te : TE} {w : DE} (h : Snd K te w) : SndS K (tDrop (tBM K "list" rAppend (tVar i) (tCons te tNil))) (dApp i w) := ⟨fun W ρ σ H De D S hw L => by
  obtain ⟨ds, e, hw⟩ := ownL_is hw
  obtain ⟨p, xs, ep, ok, n0, at_p, all⟩ := own_list S e
  refine ⟨_, ep, tyv_list at_p, h.go W ρ σ H _ _ S hw fun r v H1 s1 e1 p1 => ?_⟩
  cases r with
  | bag => exact p1.elim
  | d x f =>
    obtain ⟨g, few, p1⟩ := p1
    have S1 := S.step s1
    have at_1 : H1 p = some (.lst xs) := s1.at ok.2.2 at_p
    have all1 := DatAll.up (resg_up s1) all
    refine ⟨p, xs, v, rfl, rfl, at_1, by rw [dats_len all]; exact small_lt few, ?_⟩
    obtain ⟨S2, f2⟩ := mut_list S1 e ep ok n0 (dats_app all1 (.cons (ER.gd S s1 e1 g) .nil))
    exact L.nx _ _ _ S2 ((Fwd.step s1).trans f2) p1⟩
theorem snds_ext {i : Nat} {te : TE} {w : DE} (h : Snd K te w) : SndS K (tDrop (tBM K "list" (fun x vs H Q => rExtend x vs H Q ∨ ∃ l b xs zs, x = .ref l ∧ vs = [.ref b] ∧ H l = some (.lst xs) ∧ SqT K H b zs ∧ xs.length + zs.length ≤ sizeLine ∧ Q .non (upd H l (.lst (xs ++ zs)))) (tVar i) (tCons te tNil))) (dExt i w) := ⟨fun W ρ σ H De D S hw L => by
  obtain ⟨ds, e, hw⟩ := ownL_is hw
  obtain ⟨p, xs, ep, ok, n0, at_p, all⟩ := own_list S e
  refine ⟨_, ep, tyv_list at_p, h.go W ρ σ H _ _ S hw fun r v H1 s1 e1 p1 => ?_⟩
  cases r with
  | bag => exact p1.elim
  | d x f =>
    have S1 := S.step s1
    have at_1 : H1 p = some (.lst xs) := s1.at ok.2.2 at_p
    have all1 := DatAll.up (resg_up s1) all
    cases x with
    | list es =>
      obtain ⟨o, few, p1⟩ := p1
      obtain ⟨b, ys, rfl, at_b, all2⟩ := er_cell S s1 e1 o
      obtain ⟨S2, f2⟩ := mut_list S1 e ep ok n0 (dats_app all1 all2)
      exact .inl ⟨p, b, xs, ys, rfl, rfl, at_1, at_b, len_line (by rw [dats_len all, dats_len all2]; exact few), L.nx _ _ _ S2 ((Fwd.step s1).trans f2) p1⟩
    | tuple es =>
      obtain ⟨o, few, p1⟩ := p1
      obtain ⟨b, ys, rfl, sq, w2, g2⟩ := ER.tup S s1 e1
      have all2 := g2 (good_parts o)
      obtain ⟨S2, f2⟩ := mut_list S1 e ep ok n0 (dats_app all1 all2)
      exact .inr ⟨p, b, xs, ys, rfl, rfl, at_1, sq, len_line (by rw [dats_len all, dats_len all2]; exact few), L.nx _ _ _ S2 ((Fwd.step s1).trans f2) p1⟩
    | _ => exact p1.elim⟩
theorem snds_ins {i : Nat} {ta : TA} {wa : DA} (h : SndA K ta wa) : SndS K (tDrop (tBM K "list" (fun x vs H Q => ∃ (l : Addr) (xs : List V) (i : Int) (y : V), x = .ref l ∧ vs = [.int i, y] ∧ H l = some (.lst xs) ∧ xs.length < sizeLine ∧ 0 ≤ i ∧ i < 2 ^ 63 ∧
    Q .non (upd H l (.lst (xs.take i.toNat ++ [y] ++ xs.drop i.toNat)))) (tVar i) ta)) (dIns i wa) := ⟨fun W ρ σ H De D S hw L => by
  obtain ⟨ds, e, hw⟩ := ownL_is hw
  obtain ⟨p, xs, ep, ok, n0, at_p, all⟩ := own_list S e
  refine ⟨_, ep, tyv_list at_p, h.go W ρ σ H _ _ S hw fun rs vs H1 s1 e1 p1 => ?_⟩
  unfold insD at p1
  split at p1
  · rename_i j fl x f
    obtain ⟨g, j0, j1, few, p1⟩ := p1
    obtain ⟨u, y, rfl, q1, q2⟩ := two_of_ e1
    cases ER.flat S s1 rfl q1
    have S1 := S.step s1
    have at_1 : H1 p = some (.lst xs) := s1.at ok.2.2 at_p
    have all1 := DatAll.up (resg_up s1) all
    refine ⟨p, xs, j, y, rfl, rfl, at_1, by rw [dats_len all]; exact small_lt few, j0, j1, ?_⟩
    obtain ⟨S2, f2⟩ := mut_list S1 e ep ok n0 (dats_app (dats_app (dats_take j.toNat all1) (.cons (ER.gd S s1 q2 g) .nil)) (dats_drop j.toNat all1))
    exact L.nx _ _ _ S2 ((Fwd.step s1).trans f2) p1
  · exact p1.elim⟩
theorem pds_app {i : Nat} {x : Str} {e : Expr} {te : TE} {w : DE} {p0 p1 p2 p3 : Pos} (hv : PE X (.Name x p0) (tVar i)) (h : PD X e te w)
    (hb : PE X (.Call (.Attribute (.Name x p0) "append" p1) [e] [] p2) (tBM X.K "list" rAppend (tVar i) (tCons te tNil)))
    (hs : swapsWith (.Call (.Attribute (.Name x p0) "append" p1) [e] [] p2) none p3.line X.env = pure false := by rfl) : PDS X (.Expr (.Call (.Attribute (.Name x p0) "append" p1) [e] [] p2) p3) (tDrop (tBM X.K "list" rAppend (tVar i) (tCons te tNil))) (dApp i w) := ⟨ps_expr hb hs, snds_app h.snd⟩
/-! ### i += e, i -= e of ints -/
def dAug (i : Nat) (f : Int → Int → Int) (w : DE) : DS := fun De ρ => match ρ[i]? with
  | some (.dat (.int a)) => w ρ fun r => onD r fun y _ => match y with
    | .int b => De.nx (ρ.set i (.dat (.int (f a b))))
    | _ => False
  | _ => False
theorem snds_aug {i : Nat} {te : TE} {w : DE} {f : Int → Int → Int} (h : Snd K te w) : SndS K (tAug i te (ipI f)) (dAug i f w) := ⟨fun W ρ σ H De D S hw L => by
  unfold dAug at hw
  cases e : ρ[i]? with
  | none => rw [e] at hw; exact hw.elim
  | some s =>
    rw [e] at hw
    cases s with
    | dat x =>
      cases x with
      | int a =>
        have lt : i < σ.length := by
          rw [S.len]
          exact (List.getElem?_eq_some_iff.mp e).1
        obtain ⟨u, e1, d⟩ := S.at_ i _ e
        cases d
        have e2 : σ[i]? = some (some (V.int a)) := by
          rw [List.getElem?_eq_getElem lt] at e1 ⊢
          simpa using e1
        refine ⟨_, e2, h.go W ρ σ H _ _ S hw fun r v H1 s1 q1 p1 => ?_⟩
        cases r with
        | bag => exact p1.elim
        | d y g =>
          cases y with
          | int b =>
            cases ER.flat S s1 rfl q1
            obtain ⟨S2, f2⟩ := sim_set (i := i) (s := .dat (.int (f a b))) (u := some (.int (f a b))) S s1 (fun y p z => by cases z) ⟨_, rfl, .int _⟩
            exact ⟨a, b, rfl, rfl, L.nx _ _ _ S2 f2 p1⟩
          | _ => exact p1.elim
      | _ => exact hw.elim
    | _ => exact hw.elim⟩
/-! ### two stores at once -/
theorem ER.fwd {W : Wd} {ρ ρ1 : Ro} {σ σ1 : L2.St} {H H1 : Hp} {v : V} {r : Dv} (f : Fwd W ρ σ H1 ρ1 σ1 H1) (e : ER K W ρ σ H H1 v r) : ER K W ρ1 σ1 H H1 v r := by
  cases r with
  | bag => exact e
  | d x fl =>
    cases fl with
    | wk => exact e
    | gd => exact Dat.up (res_up f) e
    | ow => obtain ⟨p, a, b, c⟩ := e; exact ⟨p, a, b, c.up (res_up f) fun o z => z⟩
    | fr => obtain ⟨p, a, b, c⟩ := e; exact ⟨p, a, b, c.up (res_up fun q o k z => ⟨⟨(f q o k.1 z).1, k.2⟩, z⟩) fun o z => z⟩
def parDD (i j : Nat) (rs : List Dv) (ρ : Ro) (P : Ro → Prop) : Prop := match rs with
  | [.d x f, .d y g] => goodF f x = true ∧ goodF g y = true ∧ P ((ρ.set i (.dat x)).set j (.dat y))
  | _ => False
def parOD (i j : Nat) (rs : List Dv) (ρ : Ro) (P : Ro → Prop) : Prop := match rs with
  | [.d x .fr, .d y _] => pure_ y = true ∧ P ((ρ.set i (.own x)).set j (.dat y))
  | _ => False
def parDO (i j : Nat) (rs : List Dv) (ρ : Ro) (P : Ro → Prop) : Prop := match rs with
  | [.d x _, .d y .fr] => pure_ x = true ∧ P ((ρ.set i (.dat x)).set j (.own y))
  | _ => False
def dPar (k : List Dv → Ro → (Ro → Prop) → Prop) (wa : DA) : DS := fun De ρ => wa ρ fun rs => k rs ρ De.nx
theorem set_good {W : Wd} {ρ : Ro} {σ : L2.St} {H H1 : Hp} {i : Nat} {v : V} {x : PyData} (S : Sim K W ρ σ H) (s : Bu W.β H H1) (d : Dat K (res (okg W ρ σ) H1) v x) :
    Sim K W (ρ.set i (.dat x)) (σ.set i (some v)) H1 ∧ Fwd W ρ σ H (ρ.set i (.dat x)) (σ.set i (some v)) H1 ∧ ∀ q, okg W ρ σ q → okg W (ρ.set i (.dat x)) (σ.set i (some v)) q := by
  have grow : ∀ q, okg W ρ σ q → okg W (ρ.set i (.dat x)) (σ.set i (some v)) q := fun q k => ⟨k.1, fun z => by
    rcases own_set (W := W) z with z | ⟨y, e1, _⟩
    · exact k.2 z
    · cases e1⟩
  obtain ⟨a, b⟩ := sim_set (i := i) (s := .dat x) (u := some v) S s (fun y p z => by cases z) ⟨v, rfl, Dat.up (res_up fun q o k e => ⟨grow q k, e⟩) d⟩
  exact ⟨a, b, grow⟩
theorem snds_parDD {i j : Nat} {ta : TA} {wa : DA} (h : SndA K ta wa) : SndS K (tPar i j ta) (dPar (parDD i j) wa) := ⟨fun W ρ σ H De D S hw L =>
  h.go W ρ σ H _ _ S hw fun rs vs H1 s1 e1 p1 => by
    unfold parDD at p1
    split at p1
    · obtain ⟨v, u, rfl, q1, q2⟩ := two_of_ e1
      obtain ⟨S2, f2, g2⟩ := set_good (i := i) S s1 (ER.gd S s1 q1 p1.1)
      obtain ⟨S3, f3, _⟩ := set_good (i := j) S2 (Bu.refl _ _) (Dat.up (res_up fun q o k e => ⟨g2 q k, e⟩) (ER.gd S s1 q2 p1.2.1))
      exact ⟨v, u, rfl, L.nx _ _ _ S3 (f2.trans f3) p1.2.2⟩
    · exact p1.elim⟩
theorem snds_parOD {i j : Nat} {ta : TA} {wa : DA} (h : SndA K ta wa) : SndS K (tPar i j ta) (dPar (parOD i j) wa) := ⟨fun W ρ σ H De D S hw L =>
  h.go W ρ σ H _ _ S hw fun rs vs H1 s1 e1 p1 => by
    unfold parOD at p1
    split at p1
    · rename_i x y g
      obtain ⟨v, u, rfl, q1, q2⟩ := two_of_ e1
      have wk := ER.wk S s1 q2
      obtain ⟨s', S2, f2, p2⟩ := asgO_go (i := i) (P := fun ρ' => ρ' = ρ.set i (.own x)) S s1 q1 rfl
      rw [p2] at S2 f2
      obtain ⟨S3, f3, _⟩ := set_good (i := j) S2 (Bu.refl _ _) (pure_g S2 (Bu.refl _ _) p1.1 wk)
      exact ⟨v, u, rfl, L.nx _ _ _ S3 (f2.trans f3) p1.2⟩
    · exact p1.elim⟩
theorem snds_parDO {i j : Nat} {ta : TA} {wa : DA} (ij : i ≠ j) (h : SndA K ta wa) : SndS K (tPar i j ta) (dPar (parDO i j) wa) := ⟨fun W ρ σ H De D S hw L =>
  h.go W ρ σ H _ _ S hw fun rs vs H1 s1 e1 p1 => by
    unfold parDO at p1
    split at p1
    · rename_i x g y
      obtain ⟨v, u, rfl, q1, q2⟩ := two_of_ e1
      have wk := ER.wk S s1 q1
      obtain ⟨s', S2, f2, p2⟩ := asgO_go (i := j) (P := fun ρ' => ρ' = ρ.set j (.own y)) S s1 q2 rfl
      rw [p2] at S2 f2
      obtain ⟨S3, f3, _⟩ := set_good (i := i) S2 (Bu.refl _ _) (pure_g S2 (Bu.refl _ _) p1.1 wk)
      refine ⟨v, u, rfl, ?_⟩
      have e1 : (σ.set i (some v)).set j (some u) = (σ.set j (some u)).set i (some v) := List.set_comm _ _ ij
      have e2 : (ρ.set i (.dat x)).set j (.own y) = (ρ.set j (.own y)).set i (.dat x) := List.set_comm _ _ ij
      rw [e1]
      refine L.nx _ _ _ S3 (f2.trans f3) ?_
      rw [← e2]
      exact p1.2
    · exact p1.elim⟩
end
end Pd

namespace Vd
open PySem PySem.Spec PyProof.Rows L2
/-! ### sorted of tuples that begin with unlike texts -/
/-- a text stands ahead of another one -/
def ahead (x y : Str) : Bool := decide (x.cps.toList < y.cps.toList)
theorem ahead_irrefl (x : Str) : ahead x x = false := decide_eq_false (List.lt_irrefl _)
theorem ahead_swo {α : Type} (k : α → Str) : SrtO.Swo fun v u => ahead (k v) (k u) := by
  constructor
  · intro x y h
    have h' : (k x).cps.toList < (k y).cps.toList := of_decide_eq_true h
    exact decide_eq_false (List.lt_asymm h')
  · intro x y z h g
    have h' : ¬ (k y).cps.toList < (k x).cps.toList := of_decide_eq_false h
    have g' : ¬ (k z).cps.toList < (k y).cps.toList := of_decide_eq_false g
    exact decide_eq_false fun n => h' (List.lt_of_le_of_lt (List.not_lt.mp g') n)
/-- a tuple (text, integer, object) in a heap -/
def Trio (h : Heap) (v : Value) (x : Str) : Prop := ∃ (a p : Addr) (o : Obj) (i : Int) (t u : Tok) (n : Nat), v = .ref a ∧ h.get? a = some o ∧ o.cls = .type "tuple" ∧ o.data = .seq #[.str x t, .int i u, .ref p] n
section
variable {prog : Program} {w : World} {A : Around} {E : Value → Shared → Prop} {s : Shared}
theorem trio_cmp {vs : List Value} {k : Value → Str} (each : ∀ v ∈ vs, Trio s.heap v (k v)) (inj : ∀ v ∈ vs, ∀ u ∈ vs, k v = k u → v = u) : SrtO.Cmp prog w A s (tuples' true) (fun p => p.1 ∈ vs) (SrtO.lt2 fun v u => ahead (k v) (k u)) := by
  rintro ⟨v, v2⟩ ⟨u, u2⟩ mv mu
  have mv' : v ∈ vs := mv
  have mu' : u ∈ vs := mu
  obtain ⟨a, p, o, i, t1, t2, n, ev, ho, hc, hd⟩ := each v mv'
  obtain ⟨b, q, o', j, t3, t4, n', eu, ho', hc', hd'⟩ := each u mu'
  show wpAny (model prog w) A (keyLt' (tuples' true) v u) (fun r s' => s' = s ∧ r = ahead (k v) (k u)) (fun _ _ => False) s
  have same : k v = k u → a = b := fun e => by
    have := inj v mv' u mu' e
    rw [ev, eu] at this
    exact Value.ref.inj this
  generalize k v = x at hd same ⊢
  generalize k u = y at hd' same ⊢
  subst ev eu
  refine PySem.W.kat_lt ho hd ho' hd' ?_
  show PySem.W.KatLex prog w A true (decide (3 < 3)) _ [(.str x t1, .str y t3), (.int i t2, .int j t4), (.ref p, .ref q)] 0 s
  refine PySem.W.kat_cons (SeqAt.EqAt.str_str x t1 y t3 prog w _ _ (PySem.W.kat_go (fun yes => ?_) (fun nay => ?_)))
  · have e : x = y := by simpa using yes
    have eab := same e
    subst eab
    rw [ho] at ho'
    cases ho'
    rw [hd] at hd'
    cases hd'
    refine PySem.W.kat_yes (PySem.W.kat_cons (SeqAt.EqAt.int_int i t2 i t2 prog w _ _ ?_))
    rw [beq_self_eq_true]
    refine PySem.W.kat_yes (PySem.W.kat_cons ?_)
    refine (eq_of_rc (fun no => absurd rfl no) : EqT prog w A s (.ref p) (.ref p)) _ _ ?_
    refine PySem.W.kat_yes (PySem.W.kat_nil ⟨rfl, ?_⟩)
    rw [ahead_irrefl]
    rfl
  · exact PySem.W.kat_no (oneLt_str ⟨rfl, rfl⟩)
theorem trio_firsts {h : Heap} {k : Value → Str} : ∀ {vs : List Value}, (∀ v ∈ vs, Trio h v (k v)) → ∃ fs : List Value, PySem.W.KatTups h vs fs ∧ fs.length = vs.length ∧ ∀ f ∈ fs, ∃ x t, f = Value.str x t
  | [], _ => ⟨[], .nil, rfl, fun _ no => nomatch no⟩
  | v :: vs, all => by
    obtain ⟨fs, kt, len, tx⟩ := trio_firsts (k := k) (vs := vs) fun u m => all u (.tail _ m)
    obtain ⟨a, p, o, i, t1, t2, n, ev, ho, hc, hd⟩ := all v (.head _)
    subst ev
    refine ⟨.str _ t1 :: fs, .cons ho hc hd rfl kt, by simp [len], fun f m => ?_⟩
    cases m with
    | head => exact ⟨_, _, rfl⟩
    | tail _ m => exact tx f m
theorem trio_sorted {l : Addr} {vs : List Value} {k : Value → Str} {Q : Value → Shared → Prop} (hl : s.heap.IsList l vs.toArray) (few : vs.length ≤ sizeLine) (each : ∀ v ∈ vs, Trio s.heap v (k v)) (inj : ∀ v ∈ vs, ∀ u ∈ vs, k v = k u → v = u)
    (fin : ∀ (h' : Heap) (d : Addr) (out : List Value), SrtO.Srtd (fun v u => ahead (k v) (k u)) out → out.Perm vs → (∀ b o, s.heap.get? b = some o → h'.get? b = some o) → s.heap.objs.size ≤ d → (∃ n, h'.get? d = some (seqObj "list" out.toArray n)) → Q (.ref d) { s with heap := h' }) :
    wpAny (model prog w) A (call (.builtin "sorted") [.ref l]) Q E s := by
  refine SrtO.sorted_ord (ahead_swo k) hl few (fun two h1 a at_a kept => fun h2 keep => ?_) (fun out so st => fin _ _ out so st.perm (fun b o e => sortedAll_old e) (Nat.le_succ _) (sortedAll_at s.heap vs out.toArray))
  have each2 : ∀ v ∈ vs, Trio h2 v (k v) := fun v m => by
    obtain ⟨c, p, o, i, t1, t2, n, ev, ho, hc, hd⟩ := each v m
    obtain ⟨ne, up⟩ := kept c o ho
    exact ⟨c, p, o, i, t1, t2, n, ev, keep c o ne up, hc, hd⟩
  obtain ⟨fs, kt, len, tx⟩ := trio_firsts each2
  refine ⟨tuples' true, fun Q' E' q => ?_, trio_cmp (s := { s with heap := h2 }) each2 inj⟩
  refine PySem.W.kat_kind (T := .type "str") kt (by omega) (fun f m => ?_) (by rfl) q
  obtain ⟨x, t, rfl⟩ := tx f m
  exact PySem.W.Looks.now
end
section
variable {X : Cx}
/-- sorted(xs), xs a list of tuples (text, integer, object), the texts unlike -/
theorem call_sortedN : CallR X (.builtin "sorted") (fun vs H Q => ∃ (a : Addr) (xs : List V) (k : V → Str), vs = [.ref a] ∧ SqL X.K H a xs ∧ (∀ x ∈ xs, ∃ (t p : Addr) (i : Int), x = .ref t ∧ H t = some (.tup [.str (k x), .int i, .ref p])) ∧ (∀ x ∈ xs, ∀ y ∈ xs, k x = k y → x = y) ∧
    ∀ ys q, SrtO.Srtd (fun x y => ahead (k x) (k y)) ys → ys.Perm xs → H q = none → Q (.ref q) (upd H q (.lst ys))) := by
  rintro pins s σ H vs us Q I rel ⟨a, xs, k, rfl, sq, each, inj, fin⟩
  obtain ⟨its, rv, pl, few⟩ := I.list sq
  obtain ⟨u, rfl, ru⟩ := vals1 rel
  cases (show u = Value.ref a from ru)
  obtain ⟨back, refs⟩ := refs_back rv fun x m => let ⟨t, _, _, e, _⟩ := each x m; ⟨t, e⟩
  have mem : ∀ {t : Addr}, Value.ref t ∈ its → V.ref t ∈ xs := fun {t} m => by
    rw [back]
    exact List.mem_map.mpr ⟨_, m, rfl⟩
  refine trio_sorted (k := fun v => k (backV v)) pl.isList (by rw [← rv.length]; exact few) (fun v m => ?_) (fun v m v' m' e => ?_) fun h' d out so perm kept new at_d => ?_
  · obtain ⟨t, rfl⟩ := refs v m
    obtain ⟨t', p, i, e, at_t⟩ := each _ (mem m)
    cases e
    obtain ⟨_, its2, r2, o, ho, hc, n, hd⟩ := I.hok _ _ at_t
    cases r2 with
    | cons r21 r22 =>
      cases r22 with
      | cons r23 r24 =>
        cases r24 with
        | cons r25 r26 =>
          cases r26
          obtain ⟨t1, rfl⟩ := r21
          obtain ⟨t2, rfl⟩ := r23
          cases r25
          exact ⟨t, p, o, i, t1, t2, n, rfl, ho, hc, hd⟩
  · obtain ⟨t, rfl⟩ := refs v m
    obtain ⟨t', rfl⟩ := refs v' m'
    have := inj _ (mem m) _ (mem m') e
    cases this
    rfl
  · have refs2 : ∀ v ∈ out, ∃ t, v = Value.ref t := fun v m => refs v (perm.mem_iff.mp m)
    obtain ⟨n, at_d⟩ := at_d
    have permV : (out.map backV).Perm xs := by
      rw [back]
      exact perm.map _
    refine ⟨.ref d, upd H d (.lst (out.map backV)), I.laid (t' := s.toks) kept new ⟨?_, out, n, vals_back refs2, at_d⟩, rfl, fin _ d (SrtO.srtd_map so) permV (I.hok.fresh new)⟩
    rw [permV.length_eq]
    exact few
end
end Vd

namespace Vd
open PySem PySem.Spec PyProof.Rows L2
section
variable {X : Cx}
/-- name = {k: v for ..} on one line, the name a local -/
theorem ps_setDc {i : Nat} {y : Str} {py : Pos} {kx vx tg iter : Expr} {ifs : List Expr} {scope : Scope} {own : List (Str × Nat)} {pos spos : Pos} {wi : TI} {g : TG} {tt : TT} {tk tv : TE} (hc : X.calm = true) (hN : X.N.Nodup) (hy : X.N[i]? = some y) (hyl : X.env.scope.names.lookup y = some .local)
    (hsw : swapsWith (.DictComp kx vx [⟨tg, iter, ifs, 0⟩] scope pos) (some (.Name y py)) spos.line X.env = pure true) (hi : PI X tg iter wi) (ok : BlkOk X.N X.env.scope scope own)
    (hg : ∀ (s : Shared) (H : Hp) (C : Addr) (cl : List (Str × Addr)) (fp : List Addr), PG (X.blk s H scope (compEnvC scope cl C X.env) fp) tg g) (ht : ∀ (s : Shared) (H : Hp) (C : Addr) (cl : List (Str × Addr)) (fp : List Addr), PTs (X.blk s H scope (compEnvC scope cl C X.env) fp) ifs tt)
    (hk : ∀ (s : Shared) (H : Hp) (C : Addr) (cl : List (Str × Addr)) (fp : List Addr), PE (X.blk s H scope (compEnvC scope cl C X.env) fp) kx tk)
    (he : ∀ (s : Shared) (H : Hp) (C : Addr) (cl : List (Str × Addr)) (fp : List Addr), PE (X.blk s H scope (compEnvC scope cl C X.env) fp) vx tv) (hs : ∀ x, foldedSetIterable iter X.env x = pure x := by intro _; rfl) :
    PS X (.Assign [.Name y py] (.DictComp kx vx [⟨tg, iter, ifs, 0⟩] scope pos) spos) (tAsg (tDc wi g tt tk tv (own.map (·.2))) (gName i)) := by
  refine ⟨fun pins s σ H D I h => ?_⟩
  rw [exec_Assign_Name_used _ _ _ _ hsw]
  refine wpAny_bind (wpAny_standAt (wpAny_bind ?_))
  show wpAny _ X.A (do let _ ← comprehension (.DictComp kx vx [⟨tg, iter, ifs, 0⟩] scope pos) scope X.env (firstIterPos [⟨tg, iter, ifs, 0⟩] pos) newDict false (eval iter X.env) (some (assign (.Name y py) X.env))) _ _ s
  have h : tDc wi g tt tk tv (own.map (·.2)) σ H (fun x H1 => gName i x σ H1 D.nx) := h
  refine wpAny_bind (thn (dc_core (Qf := fun _ s' => SP X pins D .next s') hc hN I hi ok hg ht hk he hs h fun L C s' m H' I' q hn f => ?_) fun _ s' hq => wpAny_pure (wpAny_pure hq))
  show wpAny _ _ (assign (.Name y py) X.env (.ref L)) _ _ _
  refine wpAny_assign_Name (store_ok2 (v := V.ref L) I' hN hy (.inl hyl) rfl (fun s2 I2 ⟨a, sb, ha⟩ => ?_) (.inr hyl))
  obtain ⟨f0, f1, f2, f3, f4, f5⟩ := f
  have haC : C ≠ a := by
    rcases ha with z | z
    · rw [z]; exact f1
    · exact fun e => f4 y a z e.symm
  refine ⟨m, hn.sameBut sb haC, fun h3 sb3 => ?_⟩
  exact ⟨_, H', I2.turned (t' := s2.toks) (fun b o hb e => (sb3.2 b hb).trans e) f0 f1 f3 f4 f5, q⟩
theorem sw_trueD {kx vx : Expr} {gs : List Comprehension} {scope : Scope} {pos py : Pos} {y : Str} {l : Nat} {env : Env} (hk : env.scope.kind = .function) (hy : env.scope.names.lookup y = some .local) (hl : (py.line == pos.line) = true)
    (ha : (scope.names.any fun (n, k) => n == y && (k == .local || k == .cell)) = false) : swapsWith (.DictComp kx vx gs scope pos) (some (.Name y py)) l env = pure true := by
  have ky : env.kindOf y = some .local := hy
  have hb : env.blockKind = .function := by unfold Env.blockKind; rw [hk]; rfl
  unfold swapsWith
  simp only [hb, ky, ha, Expr.pos, hl]
  rfl
end
end Vd

namespace Vd
open PySem PySem.Spec PyProof.Rows L2
/-! ### the members of a row, each once -/
def once {α : Type} [DecidableEq α] : List α → List α → List α
  | acc, [] => acc
  | acc, x :: xs => once (if x ∈ acc then acc else acc ++ [x]) xs
theorem once_snoc {α : Type} [DecidableEq α] : ∀ (xs acc : List α) (x : α), once acc (xs ++ [x]) = if x ∈ once acc xs then once acc xs else once acc xs ++ [x]
  | [], _, _ => rfl
  | _ :: xs, _, x => once_snoc xs _ x
theorem once_mem {α : Type} [DecidableEq α] : ∀ (xs acc : List α) (y : α), y ∈ once acc xs ↔ y ∈ acc ∨ y ∈ xs
  | [], acc, y => by simp [once]
  | x :: xs, acc, y => by
    show y ∈ once (if x ∈ acc then acc else acc ++ [x]) xs ↔ _
    rw [once_mem xs _ y]
    by_cases h : x ∈ acc
    · rw [if_pos h, List.mem_cons]
      constructor
      · rintro (a | a)
        · exact .inl a
        · exact .inr (.inr a)
      · rintro (a | a | a)
        · exact .inl a
        · exact .inl (a ▸ h)
        · exact .inr a
    · rw [if_neg h]
      simp only [List.mem_append, List.mem_cons, List.not_mem_nil, or_false]
      constructor
      · rintro ((a | a) | a)
        · exact .inl a
        · exact .inr (.inl a)
        · exact .inr (.inr a)
      · rintro (a | a | a)
        · exact .inl (.inl a)
        · exact .inl (.inr a)
        · exact .inr a
theorem once_nodup {α : Type} [DecidableEq α] : ∀ (xs acc : List α), acc.Nodup → (once acc xs).Nodup
  | [], _, h => h
  | x :: xs, acc, h => by
    refine once_nodup xs _ ?_
    by_cases m : x ∈ acc
    · rw [if_pos m]; exact h
    · rw [if_neg m]
      refine List.nodup_append.mpr ⟨h, by simp, fun a ha b hb e => ?_⟩
      have : b = x := by simpa using hb
      exact m (this ▸ e ▸ ha)
theorem once_len {α : Type} [DecidableEq α] : ∀ (xs acc : List α), (once acc xs).length ≤ acc.length + xs.length
  | [], _ => Nat.le_refl _
  | x :: xs, acc => by
    refine Nat.le_trans (once_len xs _) ?_
    by_cases m : x ∈ acc
    · rw [if_pos m, List.length_cons]; omega
    · rw [if_neg m, List.length_append]
      show acc.length + 1 + xs.length ≤ acc.length + (xs.length + 1)
      omega
/-- as many as there are: no one twice -/
theorem once_full {α : Type} [DecidableEq α] : ∀ (xs acc : List α), acc.Nodup → (∀ x ∈ xs, x ∉ acc) → ((once acc xs).length = acc.length + xs.length ↔ xs.Nodup)
  | [], acc, _, _ => ⟨fun _ => List.nodup_nil, fun _ => rfl⟩
  | x :: xs, acc, na, ap => by
    have h : x ∉ acc := ap x (.head _)
    show (once (if x ∈ acc then acc else acc ++ [x]) xs).length = acc.length + (xs.length + 1) ↔ _
    rw [if_neg h]
    have len := once_len xs (acc ++ [x])
    have na2 : (acc ++ [x]).Nodup := by
      refine List.nodup_append.mpr ⟨na, by simp, fun a ha b hb e => ?_⟩
      have : b = x := by simpa using hb
      exact h (this ▸ e ▸ ha)
    by_cases m : x ∈ xs
    · refine ⟨fun e => ?_, fun n => absurd m (List.nodup_cons.mp n).1⟩
      have big : ∀ (ys bcc : List α), x ∈ ys → x ∈ bcc → (once bcc ys).length < bcc.length + ys.length := fun ys => by
        induction ys with
        | nil => intro bcc hy; cases hy
        | cons y ys ih =>
          intro bcc hy hb
          show (once (if y ∈ bcc then bcc else bcc ++ [y]) ys).length < _
          by_cases q : y ∈ bcc
          · rw [if_pos q, List.length_cons]
            have := once_len ys bcc
            omega
          · rw [if_neg q]
            have xy : x ∈ ys := by
              cases hy with
              | head => exact absurd hb q
              | tail _ hy => exact hy
            have := ih (bcc ++ [y]) xy (List.mem_append_left _ hb)
            rw [List.length_append] at this
            rw [List.length_cons]
            have e1 : [y].length = 1 := rfl
            omega
      have := big xs (acc ++ [x]) m (by simp)
      rw [List.length_append] at this
      have e1 : [x].length = 1 := rfl
      omega
    · have ih := once_full xs (acc ++ [x]) na2 fun y my z => by
        rcases List.mem_append.mp z with z | z
        · exact ap y (.tail _ my) z
        · exact m (by simpa using (by simpa using z : y = x) ▸ my)
      rw [List.length_append] at ih
      have e1 : [x].length = 1 := rfl
      rw [List.nodup_cons, ← ih]
      constructor
      · exact fun e => ⟨m, by omega⟩
      · exact fun e => by have := e.2; omega
/-! ### set(xs), xs a list of texts -/
instance keyLawful : LawfulBEq Key where
  eq_of_beq {a b} h := by
    cases a with
    | inl i =>
      cases b with
      | inl j => exact congrArg Sum.inl (eq_of_beq (show (i == j) = true from h))
      | inr y => exact nomatch (show false = true from h)
    | inr x =>
      cases b with
      | inl j => exact nomatch (show false = true from h)
      | inr y => exact congrArg Sum.inr (eq_of_beq (show (x == y) = true from h))
  rfl {a} := by
    cases a with
    | inl i => exact beq_self_eq_true i
    | inr x => exact beq_self_eq_true x
def KeysAre (us : List Value) (ks : List Key) : Prop := Vals (ks.map kV) us
theorem keys_at {us : List Value} {ks : List Key} (h : KeysAre us ks) (i : Nat) (v : Value) (e : us[i]? = some v) : ∃ k, ks[i]? = some k ∧ RelV (kV k) v := by
  have len : us.length = ks.length := by
    have := h.length
    rw [List.length_map] at this
    exact this.symm
  have lt : i < ks.length := by
    have := (List.getElem?_eq_some_iff.mp e).1
    omega
  have at_k : (ks.map kV)[i]? = some (kV ks[i]) := by
    rw [List.getElem?_map, List.getElem?_eq_getElem lt]
    rfl
  obtain ⟨u, eu, ru⟩ := h.get at_k
  rw [e] at eu
  cases eu
  exact ⟨_, List.getElem?_eq_getElem lt, ru⟩
def upTo (ks : List Key) (i : Nat) : List Key := once [] (ks.take i)
section
variable {P : Program} {w : World} {A : Around} {s : Shared}
def SetAt (P : Program) (w : World) (h : Heap) (S : Addr) (m : List Key) : Prop := h.SetOf (mixKind P w) S (fun k => decide (k ∈ m)) m.length
theorem SetAt.keep {h h' : Heap} {S : Addr} {m : List Key} (x : SetAt P w h S m) (k : ∀ o, h.get? S = some o → h'.get? S = some o) : SetAt P w h' S m := setOf_at x k
theorem fillLoop {R : Result → Shared → Prop} {I : Addr} {fp wr : List Addr} {G : Array GenState → Array GenState → Prop} {n : Nat} {T : Nat → Value → Prop} {St : Nat → Shared → Prop}
    (W : WalksS P w A.in1 I fp wr G n T St) (S : Addr) (out : S ∉ fp) (ks : List Key) (size : ks.length = n) (few : n < 1000) (val : ∀ i v, T i v → ∃ k, ks[i]? = some k ∧ RelV (kV k) v) :
    ∀ (left i : Nat) (s : Shared), n - i = left → i ≤ n → St i s → SetAt P w s.heap S (upTo ks i) → (∀ s', Moved (S :: wr) G s s' → SetAt P w s'.heap S (upTo ks n) → R (.ok (.ret .none)) s') →
      codeAny (model P w) A (.builtin "set.update.loop" ⟨[.ref S, .ref I], []⟩) R s := by
  have outw : S ∉ wr := fun z => out (W.sub _ z)
  have more : ∀ b ∈ wr, b ∈ S :: wr := fun b z => List.mem_cons_of_mem _ z
  intro left
  induction left with
  | zero =>
    intro i s e le st set fin
    obtain rfl : i = n := by omega
    refine codeAny_builtin PyProof.Rows.F.entry_set_update_loop ?_
    rw [Around.under_plainId PyProof.Rows.F.plain_set_update_loop _]
    show wpAny _ A.in1 (pyNext (.ref I) >>= _) _ _ s
    refine wpAny_bind (W.done s _ _ st fun s2 mv => ?_)
    show wpAny _ A.in1 (ret Value.none) _ _ s2
    exact wpAny_pure (fin s2 (mv.mono more) (set.keep fun o z => mv.heap S o outw z))
  | succ left ih =>
    intro i s e le st set fin
    have lt : i < n := by omega
    refine codeAny_builtin PyProof.Rows.F.entry_set_update_loop ?_
    rw [Around.under_plainId PyProof.Rows.F.plain_set_update_loop _]
    show wpAny _ A.in1 (pyNext (.ref I) >>= _) _ _ s
    refine wpAny_bind (W.item i s _ _ lt st fun v s2 tv st2 mv => ?_)
    obtain ⟨k, at_k, rk⟩ := val i v tv
    have set2 : SetAt P w s2.heap S (upTo ks i) := set.keep fun o z => mv.heap S o outw z
    have up : upTo ks (i + 1) = if k ∈ upTo ks i then upTo ks i else upTo ks i ++ [k] := by
      unfold upTo
      rw [List.take_succ, at_k]
      show once [] (ks.take i ++ [k]) = _
      rw [once_snoc]
      by_cases m : k ∈ once [] (ks.take i)
      · rw [if_pos m, if_pos m]
      · rw [if_neg m, if_neg m]
    have small : (upTo ks i).length + 1 < scanBound := by
      have := once_len (ks.take i) ([] : List Key)
      rw [List.length_take] at this
      have e0 : ([] : List Key).length = 0 := rfl
      unfold upTo scanBound
      omega
    show wpAny _ A.in1 (holding [v] (setAdd S v) >>= _) _ _ s2
    refine wpAny_bind (wpAny_holding ?_)
    unfold setAdd
    refine wpAny_holding ?_
    refine wpAny_bind ((mixKind P w).pyHash (k := k) (kV_is rk) ?_)
    refine wpAny_setAddHashed_of (knd := mixKind P w) (s := { s2 with toks := s2.toks + 1 }) (kV_is rk) (key_scan rk) set2 small fun h3 but set3 => ?_
    have set4 : SetAt P w h3 S (upTo ks (i + 1)) := by
      refine SetOf_congr (K := Key) (knd := mixKind P w) set3 (fun j => ?_) ?_
      · rw [up]
        by_cases m : k ∈ upTo ks i
        · rw [if_pos m]
          by_cases q : j = k
          · subst q
            simp [m]
          · simp [q]
        · rw [if_neg m]
          by_cases q : j = k
          · subst q
            simp
          · simp [q]
      · rw [up]
        by_cases m : k ∈ upTo ks i
        · rw [if_pos m, if_pos (decide_eq_true m)]
        · rw [if_neg m, if_neg (by simpa using m), List.length_append]
          rfl
    refine wpAny_pure ⟨plainId_quiet PyProof.Rows.F.plain_set_update_loop _, ih (i + 1) _ (by omega) lt (W.frame _ s2 _ _ st2 (Nat.le_succ _) fun b z o y => ?_) set4 fun s5 mv5 set5 => ?_⟩
    · rw [but.2 b fun q : b = S => out (by rw [← q]; exact z)]
      exact y
    · refine fin s5 (Moved.trans W.gtrans ((mv.mono more).then_heap (Nat.le_succ _) fun b o z y => ?_) mv5) set5
      rw [but.2 b fun q : b = S => z (by rw [q]; exact List.mem_cons_self)]
      exact y
variable {E : Value → Shared → Prop}
set_option maxHeartbeats 8000000 in
theorem makeSet {l : Addr} {items : Array Value} {ks : List Key} {Q : Value → Shared → Prop} (calm : A.handled = none) (at_l : s.heap.IsList l items) (are : KeysAre items.toList ks) (few : ks.length < 1000)
    (fin : ∀ (h2 : Heap) (tk : Nat), SetAt P w h2 s.heap.objs.size (once [] ks) → (∀ b o, s.heap.get? b = some o → h2.get? b = some o) → Q (.ref s.heap.objs.size) { s with heap := h2, toks := tk }) :
    wpAny (model P w) A (call (.type "set") [.ref l]) Q E s := by
  have count : ks.length = items.size := by
    have := Paired.length are
    rw [List.length_map, Array.length_toList] at this
    exact this
  obtain ⟨m1, m2, mro⟩ := PySem.F.called_set.mro
  have made := PySem.F.called_set.made
  have subT := PySem.F.called_set.sub
  have notT := PySem.F.called_set.notType
  have canC := PySem.F.called_set.canCreate
  have tyC := PySem.F.typeCall_set_1 (.ref l)
  refine wpAny_call (codeAny_of_tree ?_)
  show wpAny _ _ (callAny (.type "set") _) _ _ _
  refine wpAny_pure ⟨Code.quiet_builtin _ (by decide +kernel), codeAny_builtin PySem.F.entry_type_call ?_⟩
  rw [Around.under_plain (weight_type_call_type "set" [.ref l] []) rfl]
  repeat (any_goals (first | assumption | wp_step))
  refine codeAny_mono (code_set_new_1 (.ref l) (E := E) (Q₁ := fun v t => ∃ led : Bool, v = .ref s.heap.objs.size ∧ t = { s with heap := s.heap.push { cls := .type "set", dict := none, data := .set #[] 0 (.fresh 0 0 led) } }) fun led => ⟨led, rfl, rfl⟩) fun r s1 got => ?_
  match r, got with
  | .error _, got => exact got
  | .ok .next, got => exact got.elim
  | .ok .brk, got => exact got.elim
  | .ok .cont, got => exact got.elim
  | .ok (.ret v), ⟨led, ev, et⟩ =>
    subst ev et
    generalize eh : s.heap.push { cls := .type "set", dict := none, data := .set #[] 0 (.fresh 0 0 led) } = h1
    have at_S : h1.get? s.heap.objs.size = some { cls := .type "set", dict := none, data := .set #[] 0 (.fresh 0 0 led) } := by rw [← eh]; exact Heap.get?_push_size _ rfl
    have size1 : h1.objs.size = s.heap.objs.size + 1 := by rw [← eh]; exact Heap.size_push ..
    have old1 : ∀ b o, s.heap.get? b = some o → h1.get? b = some o := fun b o e => by rw [← eh]; exact Heap.get?_push_of_some _ e
    have isS : Shared.TypeIs { s with heap := h1 } (.ref s.heap.objs.size) "set" := ⟨_, at_S, rfl⟩
    have initL := PySem.F.called_set.init.lookup
    have initB := PySem.F.called_set.init.bind (.ref s.heap.objs.size)
    repeat (any_goals (first | assumption | wp_step))
    refine codeAny_mono (codeAny_call_builtin (R := wants (fun r t => r = .none ∧ ∃ h2 tk, t = { s with heap := h2, toks := tk } ∧ SetAt P w h2 s.heap.objs.size (once [] ks) ∧ ∀ b o, s.heap.get? b = some o → h2.get? b = some o) E)
      PySem.F.called_set.init.plain PySem.F.entry_set_init (check_set_init_1 isS ?_)) fun r t got => ?_
    · obtain ⟨⟨c, dd, dt, sl⟩, at_o, ec, nn, ed⟩ := id at_l
      simp only at ec ed
      subst ec ed
      have at_o1 := old1 _ _ at_o
      have n1 := PySem.F.sub_list_set
      have n2 := PySem.F.sub_list_frozenset
      have n3 : (Value.type "list" == Value.type "dict") = false := by decide
      have list1 : h1.IsList l items := ⟨_, at_o1, rfl, nn, rfl⟩
      have calm3 : A.in1.in1.in1.handled = none := by simp [calm]
      have lS : l < s.heap.objs.size := Heap.lt_size at_o
      unfold Builtin.«set.__init__» noKeywords Builtin.Frozenset.updateFrom
      generalize ePI : pyIter = PI
      wp_walk
      subst ePI
      refine wpAny_pyIter_list list1 ?_
      refine wpAny_bind (wpAny_runValue ?_)
      have nI : l ≠ h1.objs.size := Nat.ne_of_lt (by rw [size1]; exact Nat.lt_succ_of_lt lS)
      have outS : s.heap.objs.size ∉ [h1.objs.size, l] := by
        simp only [List.mem_cons, List.not_mem_nil, or_false, not_or]
        exact ⟨Nat.ne_of_lt (by rw [size1]; exact Nat.lt_succ_self _), Nat.ne_of_gt lS⟩
      refine fillLoop ((Walks.list calm3 _ l nI items).toS) s.heap.objs.size outS ks count (by omega) (fun i v e => keys_at are i v (by rw [Array.getElem?_toList]; exact e)) (items.size - 0) 0 _ (by omega) (Nat.zero_le _)
        ⟨⟨_, Heap.get?_push_size _ rfl, rfl, rfl⟩, (list1.push _)⟩ ?first ?last
      case first =>
        refine SetOf_congr ((setObjOf_fresh (knd := mixKind P w) led).setOf (Heap.get?_push_of_some _ at_S) (by unfold scanBound; omega)) (fun k => ?_) rfl
        simp [upTo, once]
      case last =>
        rintro ⟨h2, g2, d2, tk, os2⟩ mv set
        obtain rfl : g2 = s.gens := mv.gens
        obtain rfl : d2 = s.drawn := mv.drawn
        obtain rfl : os2 = s.os := mv.os
        show wpAny _ _ _ _ _ _
        refine wpAny_pure ?_
        show wpAny _ _ (ret Value.none) _ _ _
        have all : upTo ks items.size = once [] ks := by
          unfold upTo
          rw [← count, List.take_length]
        rw [all] at set
        refine wpAny_pure ⟨rfl, h2, tk, rfl, set, fun b o e => ?_⟩
        have lt := Heap.lt_size e
        refine mv.heap b o ?_ (Heap.get?_push_of_some _ (old1 b o e))
        simp only [List.mem_cons, List.not_mem_nil, or_false, not_or]
        exact ⟨Nat.ne_of_lt lt, Nat.ne_of_lt (by rw [size1]; exact Nat.lt_succ_of_lt lt)⟩
    · match r, got with
      | .error _, got => exact got
      | .ok .next, got => exact got.elim
      | .ok .brk, got => exact got.elim
      | .ok .cont, got => exact got.elim
      | .ok (.ret v), ⟨ev, h2, tk, et, set, old⟩ =>
        subst ev et
        repeat (any_goals (first | assumption | wp_step))
        exact fin _ _ set old
end
section
variable {X : Cx}
/-- the set of these keys at a -/
def SetM (P : Program) (w : World) (a : Addr) (m : List Key) : HO := SetK P w a (fun k => decide (k ∈ m)) m.length
theorem cr_setK (hc : X.calm = true) : CallR X (.type "set") (fun xs H Q => ∃ l ks, xs = [.ref l] ∧ SqL X.K H l (ks.map kV) ∧ ks.length < 1000 ∧ ∀ p, H p = none → Q (.ref p) (upd H p (SetM X.prog X.w p (once [] ks)))) := by
  rintro pins s σ H xs us Q I r ⟨l, ks, rfl, at_l, few, q⟩
  obtain ⟨u, rfl, ru⟩ := vals1 r
  cases (show u = Value.ref l from ru)
  obtain ⟨its, rv, pl, _⟩ := I.list at_l
  refine makeSet (P := X.prog) (w := X.w) (I.ok.hd hc) pl.isList rv few fun h2 tk set old => ?_
  exact ⟨.ref s.heap.objs.size, upd H s.heap.objs.size (SetM X.prog X.w s.heap.objs.size (once [] ks)), I.laid (t' := tk) old (Nat.le_refl _) (setK_new set), rfl, q _ (I.hok.fresh (Nat.le_refl _))⟩
theorem call_lenM : CallR X (.builtin "len") (fun xs H Q => ∃ a m, xs = [.ref a] ∧ H a = some (SetM X.prog X.w a m) ∧ m.length < 1000 ∧ Q (.int m.length) H) := by
  rintro pins s σ H xs us Q I r ⟨a, m, rfl, at_a, few, q⟩
  obtain ⟨u, rfl, ru⟩ := vals1 r
  cases (show u = Value.ref a from ru)
  obtain ⟨o, es, ep, t, ho, hex, hd, _, _, _, hf, hn⟩ := setK_get I at_a
  refine call_len_set ho hex hd hf (by rw [hn]; omega) ⟨.int m.length, H, I.tok _, ⟨_, by rw [hn]⟩, q⟩
end
end Vd

/-! D10: the rules as the defs' texts want them -/
namespace Pd
open PySem PySem.Spec PyProof.Rows L2 Vd
open Classical
theorem bo_len : bootBuiltins "len" = some (.builtin "len") := by decide +kernel
theorem bo_abs : bootBuiltins "abs" = some (.builtin "abs") := by decide +kernel
theorem bo_min : bootBuiltins "min" = some (.builtin "min") := by decide +kernel
theorem bo_max : bootBuiltins "max" = some (.builtin "max") := by decide +kernel
theorem bo_sum : bootBuiltins "sum" = some (.builtin "sum") := by decide +kernel
theorem bo_all : bootBuiltins "all" = some (.builtin "all") := by decide +kernel
theorem bo_repr : bootBuiltins "repr" = some (.builtin "repr") := by decide +kernel
theorem bo_isi : bootBuiltins "isinstance" = some (.builtin "isinstance") := by decide +kernel
theorem bo_int : bootBuiltins "int" = some (.type "int") := by decide +kernel
theorem bo_bool : bootBuiltins "bool" = some (.type "bool") := by decide +kernel
theorem bo_str : bootBuiltins "str" = some (.type "str") := by decide +kernel
theorem bo_tuple : bootBuiltins "tuple" = some (.type "tuple") := by decide +kernel
theorem bo_list : bootBuiltins "list" = some (.type "list") := by decide +kernel
theorem bo_dict : bootBuiltins "dict" = some (.type "dict") := by decide +kernel
theorem bo_type : bootBuiltins "type" = some (.type "type") := by decide +kernel
section
variable {X : Cx} {e a b : Expr} {pos : Pos} {te ta tb : TE} {we wa wb : DE} {i j : Nat} {x y : Str} {pos' : Pos}
/-! ### stores -/
theorem pd_setD (hN : X.N.Nodup) (hi : X.N[i]? = some x) (hx : Loc X.env.scope x) (he : PD X e te we) (hs : swapsWith e (some (.Name x pos')) pos.line X.env = pure false := by rfl)
    (hf : X.fn x = true ∨ X.env.scope.names.lookup x = some .local := by first | exact .inl rfl | exact .inr rfl | assumption) : PDS X (.Assign [.Name x pos'] e pos) (tAsg te (gName i)) (dSetD i we) := ⟨ps_set hN hi hx he.pe hs hf, snds_setD he.snd⟩
theorem pd_setO (hN : X.N.Nodup) (hi : X.N[i]? = some x) (hx : Loc X.env.scope x) (he : PD X e te we) (hs : swapsWith e (some (.Name x pos')) pos.line X.env = pure false := by rfl)
    (hf : X.fn x = true ∨ X.env.scope.names.lookup x = some .local := by first | exact .inl rfl | exact .inr rfl | assumption) : PDS X (.Assign [.Name x pos'] e pos) (tAsg te (gName i)) (dSetO i we) := ⟨ps_set hN hi hx he.pe hs hf, snds_setO he.snd⟩
theorem pd_asg {tg : Expr} {g : TG} {wg : WG} {l : List Nat} (he : PD X e te we) (hg : PDG X tg g l wg) (hs : swapsWithSole [tg] e pos.line X.env = pure false := by rfl) (hw : swappedStores [tg] e X.env = pure none := by rfl)
    (h1 : (assignEach [tg] X.env).map (·.2) = [assign tg X.env] := by rfl) : PDS X (.Assign [tg] e pos) (tAsg te g) (dAsg we wg) := ⟨ps_asg he.pe hg.pg hs hw h1, snds_asg he.snd hg.snd⟩
theorem pg_nm (hN : X.N.Nodup) (hi : X.N[i]? = some x) (hx : Loc X.env.scope x) (hf : X.fn x = true ∨ X.env.scope.names.lookup x = some .local := by first | exact .inl rfl | exact .inr rfl | assumption) : PDG X (.Name x pos') (gName i) [i] (fun r ρ P => asgD i r ρ P) := ⟨pg_name hN hi hx hf, sndg_name⟩
theorem pg_tp {es : List Expr} {k n : Nat} {gs : TGs} {u : WGs} {l : List Nat} (hc : X.calm = true) (h : PDGs X es gs l u) (hn : (assignEach es X.env).length = n := by rfl) (hst : (assignEach es X.env).findIdx? (·.1) = none := by rfl) :
    PDG X (.Tuple es k pos) (gSq X.K n gs) l (wgTup n u) := ⟨pg_sq hc h.pgs hn hst, sndg_tup h.snd⟩
theorem pd_aug {op : Operator} {f : Int → Int → Int} (hN : X.N.Nodup) (hi : X.N[i]? = some x) (hx : Loc X.env.scope x) (he : PD X e te we) (ho : PIp X op (ipI f)) (hf : X.fn x = true ∨ X.env.scope.names.lookup x = some .local := by first | exact .inl rfl | exact .inr rfl | assumption) :
    PDS X (.AugAssign (.Name x pos') op e pos) (tAug i te (ipI f)) (dAug i f we) := ⟨ps_aug hN hi hx he.pe ho hf, snds_aug he.snd⟩
/-! ### methods of lists -/
theorem pd_app {p0 p1 p2 : Pos} (hv : PE X (.Name x p0) (tVar i)) (he : PD X e te we)
    (hbase : attributeBase (.Name x p0) "append" X.env (eval (.Name x p0) X.env) = eval (.Name x p0) X.env := by rfl)
    (hfew : ((backTo p2 (starEach [e] X.env)).all (fun x => !x.1) && (backToKw p2 (keywordEach [] X.env)).all (fun x => x.1.isSome) && decide (([e] : List Expr).length + ([] : List Keyword).length + (if ([] : List Keyword).isEmpty then 0 else 1) < 30)) = true := by rfl)
    (hline : (p1.endLine == p2.line) = true := by rfl) (h1 : starEach [e] X.env = (false, eval e X.env) :: starEach [] X.env := by rfl) (hpl : (backTo p2 (starEach [] X.env)).any (·.1) = false := by rfl)
    (hs : swapsWith (.Call (.Attribute (.Name x p0) "append" p1) [e] [] p2) none pos.line X.env = pure false := by rfl) :
    PDS X (.Expr (.Call (.Attribute (.Name x p0) "append" p1) [e] [] p2) pos) (tDrop (tBM X.K "list" rAppend (tVar i) (tCons te tNil))) (dApp i we) :=
  ⟨ps_expr (pe_bm PySem.F.plainAttrs_list PySem.F.slot_list_append PySem.F.type_list_append mt_append hv (pa_cons he.pe pa_nil h1) hbase hfew hline h1 hpl) hs, snds_app he.snd⟩
theorem pd_ext {p0 p1 p2 : Pos} (hv : PE X (.Name x p0) (tVar i)) (he : PD X e te we)
    (hbase : attributeBase (.Name x p0) "extend" X.env (eval (.Name x p0) X.env) = eval (.Name x p0) X.env := by rfl)
    (hfew : ((backTo p2 (starEach [e] X.env)).all (fun x => !x.1) && (backToKw p2 (keywordEach [] X.env)).all (fun x => x.1.isSome) && decide (([e] : List Expr).length + ([] : List Keyword).length + (if ([] : List Keyword).isEmpty then 0 else 1) < 30)) = true := by rfl)
    (hline : (p1.endLine == p2.line) = true := by rfl) (h1 : starEach [e] X.env = (false, eval e X.env) :: starEach [] X.env := by rfl) (hpl : (backTo p2 (starEach [] X.env)).any (·.1) = false := by rfl)
    (hs : swapsWith (.Call (.Attribute (.Name x p0) "extend" p1) [e] [] p2) none pos.line X.env = pure false := by rfl) :
    PDS X (.Expr (.Call (.Attribute (.Name x p0) "extend" p1) [e] [] p2) pos) (tDrop (tBM X.K "list" (fun x vs H Q => rExtend x vs H Q ∨ ∃ l b xs zs, x = .ref l ∧ vs = [.ref b] ∧ H l = some (.lst xs) ∧ SqT X.K H b zs ∧ xs.length + zs.length ≤ sizeLine ∧ Q .non (upd H l (.lst (xs ++ zs)))) (tVar i) (tCons te tNil))) (dExt i we) :=
  ⟨ps_expr (pe_bm PySem.F.plainAttrs_list PySem.F.slot_list_extend PySem.F.type_list_extend (MtR.or mt_extend mt_extendT) hv (pa_cons he.pe pa_nil h1) hbase hfew hline h1 hpl) hs, snds_ext he.snd⟩
theorem pd_ins {p0 p1 p2 : Pos} {tA : TA} {wA : DA} (hv : PE X (.Name x p0) (tVar i)) (ha : PDA X [a, b] tA wA)
    (hbase : attributeBase (.Name x p0) "insert" X.env (eval (.Name x p0) X.env) = eval (.Name x p0) X.env := by rfl)
    (hfew : ((backTo p2 (starEach [a, b] X.env)).all (fun x => !x.1) && (backToKw p2 (keywordEach [] X.env)).all (fun x => x.1.isSome) && decide (([a, b] : List Expr).length + ([] : List Keyword).length + (if ([] : List Keyword).isEmpty then 0 else 1) < 30)) = true := by rfl)
    (hline : (p1.endLine == p2.line) = true := by rfl) (h1 : starEach [a, b] X.env = (false, eval a X.env) :: starEach [b] X.env := by rfl) (hpl : (backTo p2 (starEach [b] X.env)).any (·.1) = false := by rfl)
    (hs : swapsWith (.Call (.Attribute (.Name x p0) "insert" p1) [a, b] [] p2) none pos.line X.env = pure false := by rfl) :
    PDS X (.Expr (.Call (.Attribute (.Name x p0) "insert" p1) [a, b] [] p2) pos) (tDrop (tBM X.K "list" (fun x vs H Q => ∃ (l : Addr) (xs : List V) (i : Int) (y : V), x = .ref l ∧ vs = [.int i, y] ∧ H l = some (.lst xs) ∧ xs.length < sizeLine ∧ 0 ≤ i ∧ i < 2 ^ 63 ∧
    Q .non (upd H l (.lst (xs.take i.toNat ++ [y] ++ xs.drop i.toNat)))) (tVar i) tA)) (dIns i wA) :=
  ⟨ps_expr (pe_bm PySem.F.plainAttrs_list PySem.F.slot_list_insert PySem.F.type_list_insert mt_insert hv ha.pa hbase hfew hline h1 hpl) hs, snds_ins ha.snd⟩
/-! ### two stores -/
variable {tA : TA} {wA : DA} {px py pt : Pos} {kt k2 : _} {pt2 : _}
theorem pd_parDD {kt k2 pt2} (hc : X.calm = true) (hN : X.N.Nodup) (hi : X.N[i]? = some x) (hj : X.N[j]? = some y) (hij : i ≠ j) (hx : X.env.scope.names.lookup x = some .local) (hy : X.env.scope.names.lookup y = some .local) (ha : PDA X [a, b] tA wA)
    (hw : swappedStores [.Tuple [.Name x px, .Name y py] kt pt] (.Tuple [a, b] k2 pt2) X.env = pure (some [x, y])) (hs : swapsWithSole [.Tuple [.Name x px, .Name y py] kt pt] (.Tuple [a, b] k2 pt2) pos.line X.env = pure false := by rfl) :
    PDS X (.Assign [.Tuple [.Name x px, .Name y py] kt pt] (.Tuple [a, b] k2 pt2) pos) (tPar i j tA) (dPar (parDD i j) wA) := ⟨ps_par hc hN hi hj hij hx hy ha.pa hw hs, snds_parDD ha.snd⟩
theorem pd_parOD {kt k2 pt2} (hc : X.calm = true) (hN : X.N.Nodup) (hi : X.N[i]? = some x) (hj : X.N[j]? = some y) (hij : i ≠ j) (hx : X.env.scope.names.lookup x = some .local) (hy : X.env.scope.names.lookup y = some .local) (ha : PDA X [a, b] tA wA)
    (hw : swappedStores [.Tuple [.Name x px, .Name y py] kt pt] (.Tuple [a, b] k2 pt2) X.env = pure (some [x, y])) (hs : swapsWithSole [.Tuple [.Name x px, .Name y py] kt pt] (.Tuple [a, b] k2 pt2) pos.line X.env = pure false := by rfl) :
    PDS X (.Assign [.Tuple [.Name x px, .Name y py] kt pt] (.Tuple [a, b] k2 pt2) pos) (tPar i j tA) (dPar (parOD i j) wA) := ⟨ps_par hc hN hi hj hij hx hy ha.pa hw hs, snds_parOD ha.snd⟩
theorem pd_parDO {kt k2 pt2} (hc : X.calm = true) (hN : X.N.Nodup) (hi : X.N[i]? = some x) (hj : X.N[j]? = some y) (hij : i ≠ j) (hx : X.env.scope.names.lookup x = some .local) (hy : X.env.scope.names.lookup y = some .local) (ha : PDA X [a, b] tA wA)
    (hw : swappedStores [.Tuple [.Name x px, .Name y py] kt pt] (.Tuple [a, b] k2 pt2) X.env = pure (some [x, y])) (hs : swapsWithSole [.Tuple [.Name x px, .Name y py] kt pt] (.Tuple [a, b] k2 pt2) pos.line X.env = pure false := by rfl) :
    PDS X (.Assign [.Tuple [.Name x px, .Name y py] kt pt] (.Tuple [a, b] k2 pt2) pos) (tPar i j tA) (dPar (parDO i j) wA) := ⟨ps_par hc hN hi hj hij hx hy ha.pa hw hs, snds_parDO hij ha.snd⟩
end
/-! ### comprehensions -/
structure PDTs (X : Cx) (ifs : List Expr) (tt : TT) (w : DT) : Prop where
  pts : PTs X ifs tt
  snd : SndT X.K tt w
def dYes : DT := fun _ P => P true
theorem pdts_nil {X : Cx} : PDTs X [] tYes dYes := ⟨pts_nil, ⟨fun W ρ σ H P Q S h q => q _ H (Bu.refl _ _) h⟩⟩
theorem pdts_one {X : Cx} {c : Expr} {tt : TT} {w : DT} (h : PDT X c tt w) : PDTs X [c] tt w := ⟨pts_one h.pt, h.snd⟩
section
variable {X : Cx} {elt tg iter : Expr} {ifs : List Expr} {scope : Scope} {own : List (Str × Nat)} {pos : Pos} {wi : TI} {g : TG} {tt : TT} {te : TE} {di : DI} {wg : WG} {wt : DT} {we : DE} {sl : List Nat}
theorem pd_lc (hc : X.calm = true) (hN : X.N.Nodup) (hi : PDI X tg iter wi di) (ok : BlkOk X.N X.env.scope scope own)
    (hg : ∀ (s : Shared) (H : Hp) (C : Addr) (cl : List (Str × Addr)) (fp : List Addr), PDG (X.blk s H scope (compEnvC scope cl C X.env) fp) tg g sl wg) (ht : ∀ (s : Shared) (H : Hp) (C : Addr) (cl : List (Str × Addr)) (fp : List Addr), PDTs (X.blk s H scope (compEnvC scope cl C X.env) fp) ifs tt wt)
    (he : ∀ (s : Shared) (H : Hp) (C : Addr) (cl : List (Str × Addr)) (fp : List Addr), PD (X.blk s H scope (compEnvC scope cl C X.env) fp) elt te we) (sub : ∀ i ∈ sl, i ∈ own.map (·.2)) (hs : ∀ x, foldedSetIterable iter X.env x = pure x := by intro _; rfl) :
    PD X (.ListComp elt [⟨tg, iter, ifs, 0⟩] scope pos) (tLc wi g tt te (own.map (·.2))) (dLc di wg wt we (own.map (·.2))) := by
  have w0 : Shared := X.s_0
  have s1 : SndG X.K g sl wg := (hg X.s_0 (fun _ => none) 0 [] []).snd
  have s2 : SndT X.K tt wt := (ht X.s_0 (fun _ => none) 0 [] []).snd
  have s3 : Snd X.K te we := (he X.s_0 (fun _ => none) 0 [] []).snd
  exact ⟨pe_lc hc hN hi.pi ok (fun s H C cl fp => (hg s H C cl fp).pg) (fun s H C cl fp => (ht s H C cl fp).pts) (fun s H C cl fp => (he s H C cl fp).pe) hs, snd_lc hi.snd s1 s2 s3 sub⟩
theorem snd_lcOf (hi : PDI X tg iter wi di) (hg : ∀ (s : Shared) (H : Hp) (C : Addr) (cl : List (Str × Addr)) (fp : List Addr), PDG (X.blk s H scope (compEnvC scope cl C X.env) fp) tg g sl wg) (ht : ∀ (s : Shared) (H : Hp) (C : Addr) (cl : List (Str × Addr)) (fp : List Addr), PDTs (X.blk s H scope (compEnvC scope cl C X.env) fp) ifs tt wt)
    (he : ∀ (s : Shared) (H : Hp) (C : Addr) (cl : List (Str × Addr)) (fp : List Addr), PD (X.blk s H scope (compEnvC scope cl C X.env) fp) elt te we) (sub : ∀ i ∈ sl, i ∈ own.map (·.2)) : Snd X.K (tLc wi g tt te (own.map (·.2))) (dLc di wg wt we (own.map (·.2))) :=
  snd_lc hi.snd (hg X.s_0 (fun _ => none) 0 [] []).snd (ht X.s_0 (fun _ => none) 0 [] []).snd (he X.s_0 (fun _ => none) 0 [] []).snd sub
variable {i : Nat} {y : Str} {py spos : Pos}
theorem pd_setLcD (hc : X.calm = true) (hN : X.N.Nodup) (hy : X.N[i]? = some y) (hyl : X.env.scope.names.lookup y = some .local) (hsw : swapsWith (.ListComp elt [⟨tg, iter, ifs, 0⟩] scope pos) (some (.Name y py)) spos.line X.env = pure true)
    (hi : PDI X tg iter wi di) (ok : BlkOk X.N X.env.scope scope own)
    (hg : ∀ (s : Shared) (H : Hp) (C : Addr) (cl : List (Str × Addr)) (fp : List Addr), PDG (X.blk s H scope (compEnvC scope cl C X.env) fp) tg g sl wg) (ht : ∀ (s : Shared) (H : Hp) (C : Addr) (cl : List (Str × Addr)) (fp : List Addr), PDTs (X.blk s H scope (compEnvC scope cl C X.env) fp) ifs tt wt)
    (he : ∀ (s : Shared) (H : Hp) (C : Addr) (cl : List (Str × Addr)) (fp : List Addr), PD (X.blk s H scope (compEnvC scope cl C X.env) fp) elt te we) (sub : ∀ i ∈ sl, i ∈ own.map (·.2)) (hs : ∀ x, foldedSetIterable iter X.env x = pure x := by intro _; rfl) :
    PDS X (.Assign [.Name y py] (.ListComp elt [⟨tg, iter, ifs, 0⟩] scope pos) spos) (tAsg (tLc wi g tt te (own.map (·.2))) (gName i)) (dSetD i (dLc di wg wt we (own.map (·.2)))) :=
  ⟨ps_setLc hc hN hy hyl hsw hi.pi ok (fun s H C cl fp => (hg s H C cl fp).pg) (fun s H C cl fp => (ht s H C cl fp).pts) (fun s H C cl fp => (he s H C cl fp).pe) hs, snds_setD (snd_lcOf hi hg ht he sub)⟩
theorem pd_setLcO (hc : X.calm = true) (hN : X.N.Nodup) (hy : X.N[i]? = some y) (hyl : X.env.scope.names.lookup y = some .local) (hsw : swapsWith (.ListComp elt [⟨tg, iter, ifs, 0⟩] scope pos) (some (.Name y py)) spos.line X.env = pure true)
    (hi : PDI X tg iter wi di) (ok : BlkOk X.N X.env.scope scope own)
    (hg : ∀ (s : Shared) (H : Hp) (C : Addr) (cl : List (Str × Addr)) (fp : List Addr), PDG (X.blk s H scope (compEnvC scope cl C X.env) fp) tg g sl wg) (ht : ∀ (s : Shared) (H : Hp) (C : Addr) (cl : List (Str × Addr)) (fp : List Addr), PDTs (X.blk s H scope (compEnvC scope cl C X.env) fp) ifs tt wt)
    (he : ∀ (s : Shared) (H : Hp) (C : Addr) (cl : List (Str × Addr)) (fp : List Addr), PD (X.blk s H scope (compEnvC scope cl C X.env) fp) elt te we) (sub : ∀ i ∈ sl, i ∈ own.map (·.2)) (hs : ∀ x, foldedSetIterable iter X.env x = pure x := by intro _; rfl) :
    PDS X (.Assign [.Name y py] (.ListComp elt [⟨tg, iter, ifs, 0⟩] scope pos) spos) (tAsg (tLc wi g tt te (own.map (·.2))) (gName i)) (dSetO i (dLc di wg wt we (own.map (·.2)))) :=
  ⟨ps_setLc hc hN hy hyl hsw hi.pi ok (fun s H C cl fp => (hg s H C cl fp).pg) (fun s H C cl fp => (ht s H C cl fp).pts) (fun s H C cl fp => (he s H C cl fp).pe) hs, snds_setO (snd_lcOf hi hg ht he sub)⟩
end
/-! ### kinds -/
def kindX : PyData → String
  | .none => "NoneType"
  | .bool _ => "bool"
  | .int _ => "int"
  | .str _ => "str"
  | .list _ => "list"
  | .tuple _ => "tuple"
  | .dict _ => "dict"
theorem kind_ty {K : PySem.W.Frag} {H : Hp} {v : V} {d : PyData} (h : Dat K H v d) : TyB K H v (kindX d) := by
  cases h with
  | non => exact .non
  | bl b => exact .bl b
  | int i => exact .int i
  | str x => exact .str x
  | lst a b => exact .lst a
  | tup a b => exact .tup a
  | dic a b => exact .dK a
/-- what isinstance says of the kinds of data -/
structure KT (K : PySem.W.Frag) (T : String) (f : PyData → Bool) : Prop where
  non : PySem.W.kitOne K (.type "NoneType") (.type T) = some (f .none)
  bl : ∀ b, PySem.W.kitOne K (.type "bool") (.type T) = some (f (.bool b))
  int : ∀ i, PySem.W.kitOne K (.type "int") (.type T) = some (f (.int i))
  str : ∀ x, PySem.W.kitOne K (.type "str") (.type T) = some (f (.str x))
  lst : ∀ ds, PySem.W.kitOne K (.type "list") (.type T) = some (f (.list ds))
  tup : ∀ ds, PySem.W.kitOne K (.type "tuple") (.type T) = some (f (.tuple ds))
  dic : ∀ ds, PySem.W.kitOne K (.type "dict") (.type T) = some (f (.dict ds))
def isTyX (T : String) : PyData → Bool
  | .none => false
  | .bool _ => T == "bool" || T == "int"
  | .int _ => T == "int"
  | .str _ => T == "str"
  | .list _ => T == "list"
  | .tuple _ => T == "tuple"
  | .dict _ => T == "dict"
theorem KT.of {K : PySem.W.Frag} {T : String} {f : PyData → Bool} (k : KT K T f) {H : Hp} {v : V} {d : PyData} (h : Dat K H v d) : ∃ t, TyX K H v t ∧ PySem.W.kitOne K t (.type T) = some (f d) := by
  cases h with
  | non => exact ⟨_, .base .non, k.non⟩
  | bl b => exact ⟨_, .base (.bl b), k.bl b⟩
  | int i => exact ⟨_, .base (.int i), k.int i⟩
  | str x => exact ⟨_, .base (.str x), k.str x⟩
  | lst a b =>
    refine ⟨_, ?_, k.lst _⟩
    rcases a with (h | ⟨o, h⟩) | h
    · exact .base (.lst h)
    · exact .base (.frz h)
    · obtain ⟨o, _, _, h1, h2, _⟩ := h
      exact .kList h1 h2
  | tup a b =>
    refine ⟨_, ?_, k.tup _⟩
    rcases a with (h | ⟨o, h⟩) | h
    · exact .base (.tup h)
    · exact .fTuple h
    · obtain ⟨o, _, _, h1, h2, _⟩ := h
      exact .kTuple h1 h2
  | dic a b => exact ⟨_, .base (.dK a), k.dic _⟩
section
variable {X : Cx} {e : Expr} {p0 p1 p2 pos : Pos} {te : TE} {we : DE} {x T : Str}
def dIsi (f : PyData → Bool) (w : DE) : DE := fun ρ P => w ρ fun r => onD r fun x _ => P (atom (.bool (f x)))
theorem pd_isi {T : String} {f : PyData → Bool} {xT : Str} (kt : KT X.K T f) (he : PD X e te we) (hg : Gl X "isinstance") (hm : X.mg "isinstance" = none) (hgT : Gl X xT) (hmT : X.mg xT = none) (hvT : bootBuiltins xT = some (.type T)) (hnT : xT ≠ "__name__" := by decide) (hdT : (xT == ("__debug__" : Str)) = false := by decide)
    (s1 : starEach [e, .Name xT p1] X.env = (false, eval e X.env) :: starEach [.Name xT p1] X.env := by rfl) (s2 : starEach [.Name xT p1] X.env = (false, eval (.Name xT p1) X.env) :: starEach [] X.env := by rfl) (hpl : (backTo pos (starEach [.Name xT p1] X.env)).any (·.1) = false := by rfl) :
    PD X (.Call (.Name "isinstance" p0) [e, .Name xT p1] [] pos) (tCB (rIsi X.K) (tCons te (tCons (tC (.ty T)) tNil))) (dIsi f we) :=
  ⟨pe_callB call_isi hg hm bo_isi (pa_cons he.pe (pa_cons (pe_bltn hgT hmT hvT (v := .ty T) rfl hnT hdT) pa_nil s2) s1) (by decide) (by decide) s1 hpl, ⟨fun W ρ σ H P Q S hw q => he.snd.go W ρ σ H _ _ S hw fun r v H1 q1 e1 p1 => by
    cases r with
    | bag => exact p1.elim
    | d x fl =>
      obtain ⟨t, tx, k⟩ := kt.of (Dat.up res_sub (ER.wk S q1 e1))
      exact ⟨v, .ty T, t, .type T, f x, rfl, .ty T, tx, k, q _ _ H1 q1 er_bl p1⟩⟩⟩
def dIsTy (T : String) (w : DE) : DE := fun ρ P => w ρ fun r => onD r fun x _ => P (atom (.bool (decide (kindX x = T))))
def dNotTy (T : String) (w : DE) : DE := fun ρ P => w ρ fun r => onD r fun x _ => P (atom (.bool (!decide (kindX x = T))))
end
end Pd

/-! D11: kinds; defs by their bodies -/
namespace Pd
open PySem PySem.Spec PyProof.Rows L2 Vd
open Classical
section
variable {X : Cx} {e : Expr} {p0 p1 p2 pos : Pos} {te : TE} {we : DE} {xT : Str} {T : String}
theorem snd_isTy {K : PySem.W.Frag} (he : Snd K te we) : Snd K (tOp (fun x y H Q => ∃ a b, x = .ty a ∧ y = .ty b ∧ Q (.bl (decide (a = b))) H) (tCB (rTyp K) (tCons te tNil)) (tC (.ty T))) (dIsTy T we) := ⟨fun W ρ σ H P Q S hw q => he.go W ρ σ H _ _ S hw fun r v H1 q1 e1 p1 => by
  cases r with
  | bag => exact p1.elim
  | d x fl => exact ⟨v, kindX x, rfl, kind_ty (Dat.up res_sub (ER.wk S q1 e1)), kindX x, T, rfl, rfl, q _ _ H1 q1 er_bl p1⟩⟩
theorem snd_notTy {K : PySem.W.Frag} (he : Snd K te we) : Snd K (tOp rNT (tCB (rTyp K) (tCons te tNil)) (tC (.ty T))) (dNotTy T we) := ⟨fun W ρ σ H P Q S hw q => he.go W ρ σ H _ _ S hw fun r v H1 q1 e1 p1 => by
  cases r with
  | bag => exact p1.elim
  | d x fl => exact ⟨v, kindX x, rfl, kind_ty (Dat.up res_sub (ER.wk S q1 e1)), kindX x, T, rfl, rfl, q _ _ H1 q1 er_bl p1⟩⟩
theorem pd_isTy (he : PD X e te we) (hg : Gl X "type") (hm : X.mg "type" = none) (hgT : Gl X xT) (hmT : X.mg xT = none) (hvT : bootBuiltins xT = some (.type T)) (hnT : xT ≠ "__name__" := by decide) (hdT : (xT == ("__debug__" : Str)) = false := by decide)
    (s1 : starEach [e] X.env = (false, eval e X.env) :: starEach [] X.env := by rfl) (hpl : (backTo p2 (starEach [] X.env)).any (·.1) = false := by rfl) :
    PD X (.Compare (.Call (.Name "type" p0) [e] [] p2) [.Is] [.Name xT p1] pos) (tOp (fun x y H Q => ∃ a b, x = .ty a ∧ y = .ty b ∧ Q (.bl (decide (a = b))) H) (tCB (rTyp X.K) (tCons te tNil)) (tC (.ty T))) (dIsTy T we) :=
  ⟨pe_cmpR op_isTyB (pe_callTy call_type1 hg hm bo_type (pa_cons he.pe pa_nil s1) (by decide) (by decide) s1 hpl) (pe_bltn hgT hmT hvT (v := .ty T) rfl hnT hdT) (nomark _), snd_isTy he.snd⟩
theorem pdt_isTy (he : PD X e te we) (hg : Gl X "type") (hm : X.mg "type" = none) (hgT : Gl X xT) (hmT : X.mg xT = none) (hvT : bootBuiltins xT = some (.type T)) (hnT : xT ≠ "__name__" := by decide) (hdT : (xT == ("__debug__" : Str)) = false := by decide)
    (s1 : starEach [e] X.env = (false, eval e X.env) :: starEach [] X.env := by rfl) (hpl : (backTo p2 (starEach [] X.env)).any (·.1) = false := by rfl) :
    PDT X (.Compare (.Call (.Name "type" p0) [e] [] p2) [.Is] [.Name xT p1] pos) (tTest (tOp (fun x y H Q => ∃ a b, x = .ty a ∧ y = .ty b ∧ Q (.bl (decide (a = b))) H) (tCB (rTyp X.K) (tCons te tNil)) (tC (.ty T)))) (dTest (dIsTy T we)) :=
  ⟨pt_cmpR op_isTyB (pe_callTy call_type1 hg hm bo_type (pa_cons he.pe pa_nil s1) (by decide) (by decide) s1 hpl) (pe_bltn hgT hmT hvT (v := .ty T) rfl hnT hdT) (nomark _), ⟨fun W ρ σ H P Q S h q => (snd_isTy he.snd).go W ρ σ H _ _ S h fun r v H1 s1 e1 p1 => by
    obtain ⟨b, rfl, p⟩ := boD_is S s1 e1 p1
    exact ⟨b, rfl, q b H1 s1 p⟩⟩⟩
theorem pdt_notTy (he : PD X e te we) (hg : Gl X "type") (hm : X.mg "type" = none) (hgT : Gl X xT) (hmT : X.mg xT = none) (hvT : bootBuiltins xT = some (.type T)) (hnT : xT ≠ "__name__" := by decide) (hdT : (xT == ("__debug__" : Str)) = false := by decide)
    (s1 : starEach [e] X.env = (false, eval e X.env) :: starEach [] X.env := by rfl) (hpl : (backTo p2 (starEach [] X.env)).any (·.1) = false := by rfl) :
    PDT X (.Compare (.Call (.Name "type" p0) [e] [] p2) [.IsNot] [.Name xT p1] pos) (tTest (tOp rNT (tCB (rTyp X.K) (tCons te tNil)) (tC (.ty T)))) (dTest (dNotTy T we)) :=
  ⟨pt_cmpR op_notTyB (pe_callTy call_type1 hg hm bo_type (pa_cons he.pe pa_nil s1) (by decide) (by decide) s1 hpl) (pe_bltn hgT hmT hvT (v := .ty T) rfl hnT hdT) (nomark _), ⟨fun W ρ σ H P Q S h q => (snd_notTy he.snd).go W ρ σ H _ _ S h fun r v H1 s1 e1 p1 => by
    obtain ⟨b, rfl, p⟩ := boD_is S s1 e1 p1
    exact ⟨b, rfl, q b H1 s1 p⟩⟩⟩
end
section
variable {P : Program} {w : World} {K : PySem.W.Frag} {mg : Str → Option Value} {base : Heap}
/-- a def of the text -/
structure At (K : PySem.W.Frag) (mg : Str → Option Value) (x : Str) (st : Stmt) (ps : List Str) (f : Addr) (fd : FuncData) : Prop where
  fn : Fun K x x st f fd
  b : Binds K fd ps []
  g : mg x = some (.ref f)
theorem spD_len {n : Nat} {wf : WF} {vs : List V} {H : Hp} {Q : VK} {E : XK} (h : spD K n wf vs H Q E) : vs.length = n := by
  obtain ⟨β, R, as, P, _, a, l, _⟩ := h
  rw [a.len, l]
theorem ok_by {x qual : Str} {st : Stmt} {f : Addr} {fd : FuncData} {N ps : List Str} {k n : Nat} {ws : DS} (F : Fun K x qual st f fd) (S : FnScope N ps (defScope st)) (hn : n = ps.length)
    (body : ∀ (cdv : Value) (A : Around) (outer : List Env) (s : Shared) (H : Hp) (E : XK), Room k (A.deeper (envOfC qual (defScope st) s.heap.objs.size f cdv)) →
      ∃ ts, PDSs (cxOf CX0 P w K mg base N qual (defScope st) f cdv A outer s H E).nox (defBody st) ts ws) : FnOk P w K mg base CX0 (k + 1) f fd ps (spD K n (runD N ws)) := by
  subst hn
  refine F.ok S (fun vs H Q E h => spD_len h) fun cdv A outer s H vs Q E hr h => ?_
  obtain ⟨ts, D⟩ := body cdv A outer s H E hr
  exact ⟨ts, D.pss, body_of D.snd h⟩
/-- where no guard is around -/
theorem okG_by {x qual : Str} {st : Stmt} {f : Addr} {fd : FuncData} {N ps : List Str} {k n : Nat} {ws : DS} (F : Fun K x qual st f fd) (S : FnScope N ps (defScope st)) (hn : n = ps.length)
    (body : ∀ (cdv : Value) (B : Around) (frames : List Env) (t : Shared) (G : Hp) (E : XK), Room k (B.deeper (envOfC qual (defScope st) t.heap.objs.size f cdv)) → (B.deeper (envOfC qual (defScope st) t.heap.objs.size f cdv)).guards = some [] →
      ∃ ts, PDSs (cxOf CX0 P w K mg base N qual (defScope st) f cdv B frames t G E).nox (defBody st) ts ws) : FnG P w K mg base (k + 1) f fd ps (spD K n (runD N ws)) := by
  subst hn
  refine okG F S (fun vs H Q E h => spD_len h) fun cdv B frames t G vs Q E hr gd h => ?_
  obtain ⟨ts, D⟩ := body cdv B frames t G E hr gd
  exact ⟨ts, D.pss, body_of D.snd h⟩
theorem ok_imp {k n : Nat} {f : Addr} {fd : FuncData} {ps : List Str} {wf wf' : WF} (F : FnOk P w K mg base CX0 k f fd ps (spD K n wf)) (h : ∀ as P, as.length = n → wf' as P → wf as P) : FnOk P w K mg base CX0 k f fd ps (spD K n wf') := F.imp (spD_imp h)
theorem okG_imp {k n : Nat} {f : Addr} {fd : FuncData} {ps : List Str} {wf wf' : WF} (F : FnG P w K mg base k f fd ps (spD K n wf)) (h : ∀ as P, as.length = n → wf' as P → wf as P) : FnG P w K mg base k f fd ps (spD K n wf') :=
  ⟨fun vs H Q E q => F.many vs H Q E (spD_imp h _ _ _ _ q), fun B frames t G args us vs Q E room gd env bind rel prom => F.go B frames t G args us vs Q E room gd env bind rel (spD_imp h _ _ _ _ prom)⟩
end
end Pd

/-! D12: the rules as written texts want them: K told -/
namespace Pd
open PySem PySem.Spec PyProof.Rows L2 Vd
open Classical
section
variable {X : Cx} {K : PySem.W.Frag} {e a b c : Expr} {es : List Expr} {pos p p0 p1 p2 : Pos} {te ta tb tc : TE} {tA : TA} {we wa wb wc : DE} {wA : DA} {x : Str} {tl th : TO} {wl wh : DO}
abbrev tIx (K : PySem.W.Frag) (ta tb : TE) : TE := tOp (fun x y H Q => rIxT K x y H Q ∨ rIxL K x y H Q) ta tb
theorem g_ix (hK : X.K = K) (h1 : PD X a ta wa) (h2 : PD X b tb wb) (hs : PlainIx b := by exact fun _ _ => rfl) : PD X (.Subscript a b pos) (tIx K ta tb) (dOp wIx wa wb) := by subst hK; exact pd_ix h1 h2 hs
theorem g_cut (hK : X.K = K) {lo hi : Option Expr} (h1 : PD X e te we) (h2 : PDO X lo tl wl) (h3 : PDO X hi th wh) : PD X (.Subscript e (.Slice lo hi none p2) pos) (L2.tSl (fun x lo hi H Q => rSlA K x lo hi H Q ∨ rSlL K x lo hi H Q) te tl th) (dCut we wl wh) := by subst hK; exact pd_cut h1 h2 h3
theorem g_rev (hK : X.K = K) {k : Nat} {p3 : Pos} (h : PD X e te we) : PD X (.Subscript e (.Slice none none (some (.UnaryOp .USub (.Constant (.int 1) k p1) p2)) p3) pos) (tRevT K te) (dRev we) := by subst hK; exact pd_rev h
theorem g_add (hK : X.K = K) (h1 : PD X a ta wa) (h2 : PD X b tb wb) : PD X (.BinOp a .Add b pos) (tOp (rAdd K) ta tb) (dOp wAdd wa wb) := by subst hK; exact pd_op od_add h1 h2
theorem g_mul (hK : X.K = K) (h1 : PD X a ta wa) (h2 : PD X b tb wb) : PD X (.BinOp a .Mult b pos) (tOp (rMul K) ta tb) (dOp wMul wa wb) := by subst hK; exact pd_op od_mul h1 h2
theorem g_eq (hK : X.K = K) (room : X.A.units + 64 < cLine) (h1 : PD X a ta wa) (h2 : PD X b tb wb) : PD X (.Compare a [.Eq] [b] pos) (tOp (rEq_ K) ta tb) (dOp wEq wa wb) := by subst hK; exact pd_cmp (od_eq room) h1 h2 (nomark _)
theorem g_ne (hK : X.K = K) (room : X.A.units + 64 < cLine) (h1 : PD X a ta wa) (h2 : PD X b tb wb) : PD X (.Compare a [.NotEq] [b] pos) (tOp (rNe_ K) ta tb) (dOp wNe wa wb) := by subst hK; exact pd_cmp (od_ne room) h1 h2 (nomark _)
theorem g_in (hK : X.K = K) (h1 : PD X a ta wa) (h2 : PD X b tb wb) (hm : behindInMarks .In b = false) : PD X (.Compare a [.In] [b] pos) (tOp (rIn K false) ta tb) (dOp (wIn false) wa wb) := by subst hK; exact pd_cmp od_in h1 h2 hm
theorem g_notIn (hK : X.K = K) (h1 : PD X a ta wa) (h2 : PD X b tb wb) (hm : behindInMarks .NotIn b = false) : PD X (.Compare a [.NotIn] [b] pos) (tOp (rIn K true) ta tb) (dOp (wIn true) wa wb) := by subst hK; exact pd_cmp od_notIn h1 h2 hm
theorem g_cmp {op : CmpOp} {r : R2} {wo : W2} (o : Op2 X (compareOp op) r wo) (h1 : PD X a ta wa) (h2 : PD X b tb wb) (hm : behindInMarks op b = false) : PD X (.Compare a [op] [b] pos) (tOp r ta tb) (dOp wo wa wb) := pd_cmp o h1 h2 hm
theorem gt_eq (hK : X.K = K) (room : X.A.units + 64 < cLine) (h1 : PD X a ta wa) (h2 : PD X b tb wb) : PDT X (.Compare a [.Eq] [b] pos) (tTest (tOp (rEq_ K) ta tb)) (dTest (dOp wEq wa wb)) := by subst hK; exact pdt_cmp (od_eq room) h1 h2 (nomark _)
theorem gt_ne (hK : X.K = K) (room : X.A.units + 64 < cLine) (h1 : PD X a ta wa) (h2 : PD X b tb wb) : PDT X (.Compare a [.NotEq] [b] pos) (tTest (tOp (rNe_ K) ta tb)) (dTest (dOp wNe wa wb)) := by subst hK; exact pdt_cmp (od_ne room) h1 h2 (nomark _)
theorem gt_in (hK : X.K = K) (h1 : PD X a ta wa) (h2 : PD X b tb wb) (hm : behindInMarks .In b = false) : PDT X (.Compare a [.In] [b] pos) (tTest (tOp (rIn K false) ta tb)) (dTest (dOp (wIn false) wa wb)) := by subst hK; exact pdt_cmp od_in h1 h2 hm
theorem gt_notIn (hK : X.K = K) (h1 : PD X a ta wa) (h2 : PD X b tb wb) (hm : behindInMarks .NotIn b = false) : PDT X (.Compare a [.NotIn] [b] pos) (tTest (tOp (rIn K true) ta tb)) (dTest (dOp (wIn true) wa wb)) := by subst hK; exact pdt_cmp od_notIn h1 h2 hm
theorem gt_tru (hK : X.K = K) (h : PD X a ta wa) (he : ∀ whole, isTrue a X.env whole = (do let v ← whole; standAt a.pos; holding [v] (truthy v)) := by intro _; rfl) : PDT X a (fun σ H Q => ta σ H fun x H1 => ∃ k, TruV K x H1 k ∧ Q k H1) (dTru wa) := by subst hK; exact pdt_tru h he
/-! calls of builtins -/
section
variable (hK : X.K = K) (hg : Gl X x) (hm : X.mg x = none) (ha : PDA X (e :: es) tA wA) (hn : x ≠ "__name__") (hdb : (x == ("__debug__" : Str)) = false)
    (he : starEach (e :: es) X.env = (false, eval e X.env) :: starEach es X.env) (hpl : (backTo pos (starEach es X.env)).any (·.1) = false)
def rLen (K : PySem.W.Frag) : List V → Hp → VK → Prop := fun xs H Q => (∃ p ys, xs = [.ref p] ∧ (SqL K H p ys ∨ SqT K H p ys) ∧ Q (.int ys.length) H) ∨ ∃ z, xs = [.str z] ∧ z.length ≤ sizeLine ∧ Q (.int z.length) H
def rSum2 (K : PySem.W.Frag) : List V → Hp → VK → Prop := fun vs H Q => rSum K vs H Q ∨ ∃ (a : Addr) (ns : List Int), vs = [V.ref a] ∧ SqT K H a (ns.map V.int) ∧ Q (.int ns.sum) H
def rTupC (K : PySem.W.Frag) : List V → Hp → VK → Prop := fun xs H Q => ∃ p ys, xs = [.ref p] ∧ ((SqL K H p ys ∧ ∀ l, H l = none → Q (.ref l) (upd H l (.tup ys))) ∨ (SqT K H p ys ∧ Q (.ref p) H))
def rLstC (K : PySem.W.Frag) : List V → Hp → VK → Prop := fun xs H Q => ∃ p ys, xs = [.ref p] ∧ (SqL K H p ys ∨ SqT K H p ys) ∧ ∀ l, H l = none → Q (.ref l) (upd H l (.lst ys))
def rRepr (K : PySem.W.Frag) : List V → Hp → VK → Prop := fun xs H Q => ∃ x d, xs = [x] ∧ Dat K H x d ∧ Shows d ∧ d.depth ≤ 60 ∧ Q (.str d.shown) H
end
theorem g_len (hK : X.K = K) (hg : Gl X "len") (hm : X.mg "len" = none) (ha : PDA X (e :: es) tA wA) (he : starEach (e :: es) X.env = (false, eval e X.env) :: starEach es X.env := by rfl) (hpl : (backTo pos (starEach es X.env)).any (·.1) = false := by rfl) :
    PD X (.Call (.Name "len" p) (e :: es) [] pos) (tCB (rLen K) tA) (dCall wLen wA) := by subst hK; exact pd_callB (call_len_seq.or call_len_str) cs_len hg hm bo_len ha (by decide) (by decide) he hpl
theorem g_int (hg : Gl X "int") (hm : X.mg "int" = none) (ha : PDA X (e :: es) tA wA) (he : starEach (e :: es) X.env = (false, eval e X.env) :: starEach es X.env := by rfl) (hpl : (backTo pos (starEach es X.env)).any (·.1) = false := by rfl) :
    PD X (.Call (.Name "int" p) (e :: es) [] pos) (tCB (fun xs H Q => (∃ i, xs = [.int i] ∧ Q (.int i) H) ∨ ∃ k, xs = [.bl k] ∧ Q (.int (if k then 1 else 0)) H) tA) (dCall wInt wA) := pd_callT call_int1 cs_int hg hm bo_int ha (by decide) (by decide) he hpl
theorem g_str (hg : Gl X "str") (hm : X.mg "str" = none) (ha : PDA X (e :: es) tA wA) (he : starEach (e :: es) X.env = (false, eval e X.env) :: starEach es X.env := by rfl) (hpl : (backTo pos (starEach es X.env)).any (·.1) = false := by rfl) :
    PD X (.Call (.Name "str" p) (e :: es) [] pos) (tCB (fun xs H Q => ∃ i, xs = [.int i] ∧ i.natAbs.log2 < 1920 ∧ Q (.str (toString i)) H) tA) (dCall wStr wA) := pd_callT call_str_int cs_str hg hm bo_str ha (by decide) (by decide) he hpl
theorem g_min2 (hc : X.calm = true) (hg : Gl X "min") (hm : X.mg "min" = none) (ha : PDA X (e :: es) tA wA) (he : starEach (e :: es) X.env = (false, eval e X.env) :: starEach es X.env := by rfl) (hpl : (backTo pos (starEach es X.env)).any (·.1) = false := by rfl) :
    PD X (.Call (.Name "min" p) (e :: es) [] pos) (tCB (fun xs H Q => ∃ i j, xs = [.int i, .int j] ∧ Q (.int (if j < i then j else i)) H) tA) (dCall wMin2 wA) := pd_callB (call_min2 hc) cs_min2 hg hm bo_min ha (by decide) (by decide) he hpl
theorem g_max2 (hc : X.calm = true) (hg : Gl X "max") (hm : X.mg "max" = none) (ha : PDA X (e :: es) tA wA) (he : starEach (e :: es) X.env = (false, eval e X.env) :: starEach es X.env := by rfl) (hpl : (backTo pos (starEach es X.env)).any (·.1) = false := by rfl) :
    PD X (.Call (.Name "max" p) (e :: es) [] pos) (tCB (fun xs H Q => ∃ i j, xs = [.int i, .int j] ∧ Q (.int (if j > i then j else i)) H) tA) (dCall wMax2 wA) := pd_callB (call_max2 hc) cs_max2 hg hm bo_max ha (by decide) (by decide) he hpl
theorem g_abs (hg : Gl X "abs") (hm : X.mg "abs" = none) (ha : PDA X (e :: es) tA wA) (he : starEach (e :: es) X.env = (false, eval e X.env) :: starEach es X.env := by rfl) (hpl : (backTo pos (starEach es X.env)).any (·.1) = false := by rfl) :
    PD X (.Call (.Name "abs" p) (e :: es) [] pos) (tCB (fun xs H Q => ∃ i, xs = [.int i] ∧ Q (.int (if i < 0 then -i else i)) H) tA) (dCall wAbs wA) := pd_callB call_abs cs_abs hg hm bo_abs ha (by decide) (by decide) he hpl
theorem g_sum (hK : X.K = K) (hc : X.calm = true) (hg : Gl X "sum") (hm : X.mg "sum" = none) (ha : PDA X (e :: es) tA wA) (he : starEach (e :: es) X.env = (false, eval e X.env) :: starEach es X.env := by rfl) (hpl : (backTo pos (starEach es X.env)).any (·.1) = false := by rfl) :
    PD X (.Call (.Name "sum" p) (e :: es) [] pos) (tCB (rSum2 K) tA) (dCall wSum wA) := by subst hK; exact pd_callB ((cr_sum hc).or (cr_sumT hc)) cs_sum hg hm bo_sum ha (by decide) (by decide) he hpl
theorem g_all (hK : X.K = K) (hc : X.calm = true) (hg : Gl X "all") (hm : X.mg "all" = none) (ha : PDA X (e :: es) tA wA) (he : starEach (e :: es) X.env = (false, eval e X.env) :: starEach es X.env := by rfl) (hpl : (backTo pos (starEach es X.env)).any (·.1) = false := by rfl) :
    PD X (.Call (.Name "all" p) (e :: es) [] pos) (tCB (rAll K) tA) (dCall wAll wA) := by subst hK; exact pd_callB (cr_all hc) cs_all hg hm bo_all ha (by decide) (by decide) he hpl
theorem g_tuple (hK : X.K = K) (hg : Gl X "tuple") (hm : X.mg "tuple" = none) (ha : PDA X (e :: es) tA wA) (he : starEach (e :: es) X.env = (false, eval e X.env) :: starEach es X.env := by rfl) (hpl : (backTo pos (starEach es X.env)).any (·.1) = false := by rfl) :
    PD X (.Call (.Name "tuple" p) (e :: es) [] pos) (tCB (rTupC K) tA) (dCall wTuple wA) := by subst hK; exact pd_callT call_tuple_of cs_tuple hg hm bo_tuple ha (by decide) (by decide) he hpl
theorem g_list (hK : X.K = K) (hg : Gl X "list") (hm : X.mg "list" = none) (ha : PDA X (e :: es) tA wA) (he : starEach (e :: es) X.env = (false, eval e X.env) :: starEach es X.env := by rfl) (hpl : (backTo pos (starEach es X.env)).any (·.1) = false := by rfl) :
    PD X (.Call (.Name "list" p) (e :: es) [] pos) (tCB (rLstC K) tA) (dCall wList wA) := by subst hK; exact pd_callT call_list_of cs_list hg hm bo_list ha (by decide) (by decide) he hpl
theorem g_repr (hK : X.K = K) (room : X.A.units + 64 < cLine) (guards : X.A.guards = some []) (hg : Gl X "repr") (hm : X.mg "repr" = none) (ha : PDA X (e :: es) tA wA) (he : starEach (e :: es) X.env = (false, eval e X.env) :: starEach es X.env := by rfl) (hpl : (backTo pos (starEach es X.env)).any (·.1) = false := by rfl) :
    PD X (.Call (.Name "repr" p) (e :: es) [] pos) (tCB (rRepr K) tA) (dCall wRepr wA) := by subst hK; exact pd_callB (call_reprD room guards) cs_repr hg hm bo_repr ha (by decide) (by decide) he hpl
theorem g_isi (hK : X.K = K) {T : String} {f : PyData → Bool} {xT : Str} (kt : KT K T f) (he : PD X e te we) (hg : Gl X "isinstance") (hm : X.mg "isinstance" = none) (hgT : Gl X xT) (hmT : X.mg xT = none) (hvT : bootBuiltins xT = some (.type T)) (hnT : xT ≠ "__name__" := by decide) (hdT : (xT == ("__debug__" : Str)) = false := by decide)
    (s1 : starEach [e, .Name xT p1] X.env = (false, eval e X.env) :: starEach [.Name xT p1] X.env := by rfl) (s2 : starEach [.Name xT p1] X.env = (false, eval (.Name xT p1) X.env) :: starEach [] X.env := by rfl) (hpl : (backTo pos (starEach [.Name xT p1] X.env)).any (·.1) = false := by rfl) :
    PD X (.Call (.Name "isinstance" p0) [e, .Name xT p1] [] pos) (tCB (rIsi K) (tCons te (tCons (tC (.ty T)) tNil))) (dIsi f we) := by subst hK; exact pd_isi kt he hg hm hgT hmT hvT hnT hdT s1 s2 hpl
/-! own defs -/
theorem g_call {k n : Nat} {f : Addr} {fd : FuncData} {ps : List Str} {wf : WF} (hK : X.K = K) (F : FnOk X.prog X.w X.K X.mg X.base CX0 k f fd ps (spD K n wf)) (hr : Room k X.A) (hg : Gl X x) (hm : X.mg x = some (.ref f)) (hk : PySem.W.keepIn X.K (.ref f) = true) (hb : Binds X.K fd ps []) (hx : Passes CX0 X E0)
    (ha : PDA X (e :: es) tA wA) (hdb : (x == ("__debug__" : Str)) = false := by decide) (he : starEach (e :: es) X.env = (false, eval e X.env) :: starEach es X.env := by rfl) (hpl : (backTo pos (starEach es X.env)).any (·.1) = false := by rfl) :
    PD X (.Call (.Name x p) (e :: es) [] pos) (tCall (spD K n wf) [] E0 tA) (dOwn n wf wA) := by subst hK; exact pd_call F hr hg hm hk hb hx ha hdb he hpl
theorem g_callG {k n : Nat} {f : Addr} {fd : FuncData} {ps : List Str} {wf : WF} (hK : X.K = K) (F : FnG X.prog X.w X.K X.mg X.base k f fd ps (spD K n wf)) (hr : Room k X.A) (guards : X.A.guards = some []) (hg : Gl X x) (hm : X.mg x = some (.ref f)) (hk : PySem.W.keepIn X.K (.ref f) = true) (hb : Binds X.K fd ps [])
    (ha : PDA X (e :: es) tA wA) (hdb : (x == ("__debug__" : Str)) = false := by decide) (he : starEach (e :: es) X.env = (false, eval e X.env) :: starEach es X.env := by rfl) (hpl : (backTo pos (starEach es X.env)).any (·.1) = false := by rfl) :
    PD X (.Call (.Name x p) (e :: es) [] pos) (fun σ H Q => tA σ H fun vs H1 => spD K n wf vs H1 Q E0) (dOwn n wf wA) := by subst hK; exact pd_callG F hr guards hg hm hk hb ha hdb he hpl
/-! targets, walks -/
theorem g_tp (hK : X.K = K) {k n : Nat} {gs : TGs} {u : WGs} {l : List Nat} (hc : X.calm = true) (h : PDGs X es gs l u) (hn : (assignEach es X.env).length = n := by rfl) (hst : (assignEach es X.env).findIdx? (·.1) = none := by rfl) :
    PDG X (.Tuple es k pos) (gSq K n gs) l (wgTup n u) := by subst hK; exact pg_tp hc h hn hst
variable {tg : Expr} {elts : List Expr} {kk : Nat} {tpos : Pos}
theorem gi_seq (hK : X.K = K) (h : PD X e te we) : PDI X tg e (iSeq K te) (dIter we) := by subst hK; exact pdi_seq h
theorem gi_enum (hK : X.K = K) (hg : Gl X "enumerate") (hm : X.mg "enumerate" = none) (h : PDA X [e] tA wA) (hs : starEach [e] X.env = [(false, eval e X.env)] := by rfl) : PDI X (.Tuple elts kk tpos) (.Call (.Name "enumerate" p) [e] [] pos) (iEnumA K tA) (dEnum wA) := by subst hK; exact pdi_enum hg hm h hs
theorem gi_zip (hK : X.K = K) (hg : Gl X "zip") (hm : X.mg "zip" = none) (h : PDA X [e, a] tA wA) (hs : starEach [e, a] X.env = (false, eval e X.env) :: starEach [a] X.env := by rfl) (hpl : (backTo pos (starEach [a] X.env)).any (·.1) = false := by rfl) :
    PDI X (.Tuple elts kk tpos) (.Call (.Name "zip" p) [e, a] [] pos) (RZ.iZipA K tA) (dZip wA) := by subst hK; exact pdi_zip hg hm h hs hpl
theorem gi_rng1 (hg : Gl X "range") (hm : X.mg "range" = none) (h : PDA X [e] tA wA) (hs : starEach [e] X.env = [(false, eval e X.env)] := by rfl) : PDI X tg (.Call (.Name "range" p) [e] [] pos) (iRng1 tA) (dRng1 wA) := pdi_rng1 h (pi_range1 hg hm h.pa hs)
theorem gi_rng2 (hg : Gl X "range") (hm : X.mg "range" = none) (h : PDA X [e, a] tA wA) (hi : PI X tg (.Call (.Name "range" p) [e, a] [] pos) (iRng2 tA)) : PDI X tg (.Call (.Name "range" p) [e, a] [] pos) (iRng2 tA) (dRng2 wA) := ⟨hi, ⟨fun W ρ σ H P R S hw q =>
  h.snd.go W ρ σ H _ _ S hw fun rs vs H1 s1 e1 p1 => by
    unfold wRng2 at p1
    split at p1
    · obtain ⟨v, u, rfl, q1, q2⟩ := two_of_ e1
      cases ER.flat S s1 rfl q1
      cases ER.flat S s1 rfl q2
      exact ⟨_, _, rfl, p1.1, q _ true _ H1 s1 itr_rng p1.2⟩
    · exact p1.elim⟩⟩
end
/-! ### sorted: tuples (text, integer, thing), the texts unlike -/
section
variable {X : Cx}
def nameX : PyData → Str
  | .tuple (.str x :: _) => x
  | _ => ""
def trioX : PyData → Bool
  | .tuple [.str _, .int _, .tuple _] => true
  | _ => false
def rSortN (K : PySem.W.Frag) : List V → Hp → VK → Prop := fun vs H Q => ∃ (a : Addr) (xs : List V) (ds : List PyData) (F : Hp), vs = [.ref a] ∧ SqL K H a xs ∧ (∀ p o, F p = some o → H p = some o) ∧ DatAll K F xs ds ∧ ds.all trioX = true ∧ (ds.map nameX).Nodup ∧
    ∀ ys es q, DatAll K F ys es → ys.Perm xs → es.Perm ds → SrtO.Srtd (fun x y => ahead (nameX x) (nameX y)) es → H q = none → Q (.ref q) (upd H q (.lst ys))
theorem perm_dats {K : PySem.W.Frag} {H : Hp} {ys xs : List V} (p : ys.Perm xs) : ∀ {ds : List PyData}, DatAll K H xs ds → ∃ es, DatAll K H ys es ∧ es.Perm ds := by
  induction p with
  | nil => intro ds d; cases d; exact ⟨[], .nil, .nil⟩
  | cons x _ ih =>
    intro ds d
    cases d with
    | cons a b => obtain ⟨es, q1, q2⟩ := ih b; exact ⟨_, .cons a q1, q2.cons _⟩
  | swap x y l =>
    intro ds d
    cases d with
    | cons a b =>
      cases b with
      | cons b c => exact ⟨_, .cons b (.cons a c), .swap _ _ _⟩
  | trans _ _ ih1 ih2 =>
    intro ds d
    obtain ⟨es, q1, q2⟩ := ih2 d
    obtain ⟨fs, q3, q4⟩ := ih1 q1
    exact ⟨fs, q3, q4.trans q2⟩
end
end Pd

/-! C0: loops by data; halls as data -/
namespace Cm
open PySem PySem.Spec PyProof.Rows L2 Vd Pd
theorem leb {n m : Nat} (h : Nat.ble n m = true) : n ≤ m := Nat.le_of_ble_eq_true h
theorem iteD {c : Prop} [Decidable c] {A B : Prop} (h1 : c → A) (h2 : ¬ c → B) : if decide c = true then A else B := by
  by_cases h : c
  · rw [decide_eq_true h]; exact (if_pos rfl).mpr (h1 h)
  · rw [decide_eq_false h]; exact (if_neg (by decide)).mpr (h2 h)
theorem iteB {c : Bool} {A B : Prop} (h1 : c = true → A) (h2 : c = false → B) : if c = true then A else B := by
  cases c with
  | true => exact (if_pos rfl).mpr (h1 rfl)
  | false => exact (if_neg (by decide)).mpr (h2 rfl)
/-! ### loops -/
theorem lc_gen {α : Type} {wg : WG} {wt : DT} {we : DE} {ρw : Ro} (f : α → PyData) (g : α → Option PyData) {k : List PyData → Prop} :
    ∀ (xs : List α) (acc : List PyData), acc.length + xs.length ≤ 1000000 →
    (∀ a ∈ xs, ∀ (acc' : List PyData) (k' : List PyData → Prop), acc'.length < 1000000 → k' (acc' ++ (g a).toList) → wg (.d (f a) .gd) ρw fun ρ2 => wt ρ2 fun b => if b = true then we ρ2 fun r => onD r fun x fl => goodF fl x = true ∧ acc'.length < 1000000 ∧ k' (acc' ++ [x]) else k' acc') →
    k (acc ++ xs.filterMap g) → lcL wg wt we ρw (xs.map f) acc k
  | [], acc, _, _, h => by simpa [lcL] using h
  | a :: xs, acc, few, step, h => by
    have few' : acc.length < 1000000 := by rw [List.length_cons] at few; omega
    refine step a (.head _) acc (fun acc2 => lcL wg wt we ρw (xs.map f) acc2 k) few' ?_
    refine lc_gen f g xs _ ?_ (fun b m => step b (.tail _ m)) ?_
    · rw [List.length_append]
      rw [List.length_cons] at few
      have : (g a).toList.length ≤ 1 := by cases g a <;> simp
      omega
    · have e : (a :: xs).filterMap g = (g a).toList ++ xs.filterMap g := by
        rw [List.filterMap_cons]
        cases g a <;> rfl
      rw [e, ← List.append_assoc] at h
      exact h
theorem lc_map {α : Type} {wg : WG} {wt : DT} {we : DE} {ρw : Ro} (f : α → PyData) (g : α → PyData) {k : List PyData → Prop} (xs : List α) (few : xs.length ≤ 1000000)
    (step : ∀ a ∈ xs, ∀ (acc' : List PyData) (k' : List PyData → Prop), acc'.length < 1000000 → k' (acc' ++ [g a]) → wg (.d (f a) .gd) ρw fun ρ2 => wt ρ2 fun b => if b = true then we ρ2 fun r => onD r fun x fl => goodF fl x = true ∧ acc'.length < 1000000 ∧ k' (acc' ++ [x]) else k' acc')
    (h : k (xs.map g)) : lcL wg wt we ρw (xs.map f) [] k :=
  lc_gen f (fun a => some (g a)) xs [] (by simpa using few) (fun a m acc' k' few h => step a m acc' k' few h) (by
    have : xs.filterMap (fun a => some (g a)) = xs.map g := by rw [← List.filterMap_eq_map]; rfl
    rw [this]
    exact h)
theorem for_genA {α : Type} {wg : WG} {wb : DS} (f : α → PyData) {De : DEnds} (all : List α) (I : List α → Ro → Prop) :
    ∀ (xs done : List α) (ρ : Ro), all = done ++ xs → I done ρ → (∀ (done' : List α) (a : α) (rest : List α) (ρ : Ro) (C : Ro → Prop), all = done' ++ a :: rest → I done' ρ → (∀ ρ', I (done' ++ [a]) ρ' → C ρ') → wg (.d (f a) .gd) ρ fun ρ' => wb { De with nx := C, ct := C, bk := De.nx } ρ') →
    (∀ ρ, I all ρ → De.nx ρ) → forL wg wb (xs.map f) De ρ
  | [], done, ρ, e, h, _, fin => fin ρ (by rw [e, List.append_nil]; exact h)
  | a :: xs, done, ρ, e, h, step, fin => step done a xs ρ _ e h fun ρ' h' => for_genA f all I xs (done ++ [a]) ρ' (by rw [e]; simp) h' step fin
theorem for_gen {α : Type} {wg : WG} {wb : DS} (f : α → PyData) {De : DEnds} (I : List α → Ro → Prop) (xs : List α) (ρ : Ro) (h : I [] ρ)
    (step : ∀ (done' : List α) (a : α) (rest : List α) (ρ : Ro) (C : Ro → Prop), xs = done' ++ a :: rest → I done' ρ → (∀ ρ', I (done' ++ [a]) ρ' → C ρ') → wg (.d (f a) .gd) ρ fun ρ' => wb { De with nx := C, ct := C, bk := De.nx } ρ')
    (fin : ∀ ρ, I xs ρ → De.nx ρ) : forL wg wb (xs.map f) De ρ := for_genA f xs I xs [] ρ rfl h step fin
theorem for_gen0 {wg : WG} {wb : DS} {De : DEnds} (I : List PyData → Ro → Prop) (xs : List PyData) (ρ : Ro) (h : I [] ρ)
    (step : ∀ (done' : List PyData) (a : PyData) (rest : List PyData) (ρ : Ro) (C : Ro → Prop), xs = done' ++ a :: rest → I done' ρ → (∀ ρ', I (done' ++ [a]) ρ' → C ρ') → wg (.d a .gd) ρ fun ρ' => wb { De with nx := C, ct := C, bk := De.nx } ρ')
    (fin : ∀ ρ, I xs ρ → De.nx ρ) : forL wg wb xs De ρ := by
  have := for_gen (wg := wg) (wb := wb) (De := De) (fun a : PyData => a) I xs ρ h step fin
  rwa [List.map_id'] at this
/-! ### halls as data -/
abbrev Purse := Int × Int
abbrev Mach := Str × Int × List Purse
abbrev Belt := Str × Str × Int × Int
def purseD (x : Purse) : PyData := .tuple [.int x.1, .int x.2]
def pursesD (l : List Purse) : PyData := .tuple (l.map purseD)
def machD (m : Mach) : PyData := .tuple [.str m.1, .int m.2.1, pursesD m.2.2]
def beltD (b : Belt) : PyData := .tuple [.str b.1, .str b.2.1, .int b.2.2.1, .int b.2.2.2]
structure Hall where
  ms : List Mach
  bs : List Belt
  fl : Str
def hallD (h : Hall) : PyData := .tuple [.tuple (h.ms.map machD), .tuple (h.bs.map beltD), .str h.fl]
theorem pures_map {α : Type} (f : α → PyData) (p : ∀ a, pure_ (f a) = true) : ∀ xs : List α, pures (xs.map f) = true
  | [] => rfl
  | x :: xs => by
    show (pure_ (f x) && pures (xs.map f)) = true
    rw [p x, pures_map f p xs]
    rfl
theorem pure_purse (x : Purse) : pure_ (purseD x) = true := rfl
theorem pure_purses (l : List Purse) : pure_ (pursesD l) = true := pures_map _ pure_purse l
theorem pure_mach (m : Mach) : pure_ (machD m) = true := by
  show (true && (true && (pure_ (pursesD m.2.2) && true))) = true
  rw [pure_purses]
  rfl
theorem pure_belt (b : Belt) : pure_ (beltD b) = true := rfl
theorem pure_hall (h : Hall) : pure_ (hallD h) = true := by
  show (pures (h.ms.map machD) && (pures (h.bs.map beltD) && (true && true))) = true
  rw [pures_map _ pure_mach, pures_map _ pure_belt]
  rfl
end Cm

namespace Cm
open PySem PySem.Spec PyProof.Rows L2 Vd Pd
/-! names_of -/
abbrev N_names_of : List Str := ["hall", "machine"]
def ws_names_of : DS := (dRet (dCall wTuple (dCons (dLc (dIter (dOp wIx (dVar 0) (dC (.int 0)))) (fun r ρ P => asgD 1 r ρ P) dYes (dOp wIx (dVar 1) (dC (.int 0))) [1]) dNil)))
abbrev W_names_of : WF := runD N_names_of ws_names_of
/-! end_of -/
abbrev N_end_of : List Str := ["hall", "arc", "kind", "where"]
def ws_end_of : DS := (dSeq (dAsg (dVar 1) (wgTup 2 (wgCons (fun r ρ P => asgD 2 r ρ P) (wgCons (fun r ρ P => asgD 3 r ρ P) wgNil))))
  (dSeq (dIf (dTest (dOp wEq (dVar 2) (dC (.str "next")))) (dRet (dVar 3)) dNext)
  (dRet (dOp wIx (dOp wIx (dOp wIx (dVar 0) (dC (.int 1))) (dVar 3)) (dIfE (dTest (dOp wEq (dVar 2) (dC (.str "down")))) (dC (.int 1)) (dC (.int 0)))))))
abbrev W_end_of : WF := runD N_end_of ws_end_of
/-! growth_of -/
abbrev N_growth_of : List Str := ["hall", "arc", "kind", "where", "_", "room", "first"]
def ws_growth_of : DS := (dSeq (dAsg (dVar 1) (wgTup 2 (wgCons (fun r ρ P => asgD 2 r ρ P) (wgCons (fun r ρ P => asgD 3 r ρ P) wgNil))))
  (dSeq (dIf (dTest (dOp wEq (dVar 2) (dC (.str "next")))) (dRet (dC (.int 1))) dNext)
  (dSeq (dAsg (dOp wIx (dOp wIx (dVar 0) (dC (.int 1))) (dVar 3)) (wgTup 4 (wgCons (fun r ρ P => asgD 4 r ρ P) (wgCons (fun r ρ P => asgD 4 r ρ P) (wgCons (fun r ρ P => asgD 5 r ρ P) (wgCons (fun r ρ P => asgD 6 r ρ P) wgNil))))))
  (dRet (dIfE (dTest (dOp wEq (dVar 2) (dC (.str "down")))) (dVar 6) (dOp wSub (dVar 5) (dVar 6)))))))
abbrev W_growth_of : WF := runD N_growth_of ws_growth_of
/-! does_end -/
abbrev N_does_end : List Str := ["arc"]
def ws_does_end : DS := (dRet (dOp (wIn false) (dOp wIx (dVar 0) (dC (.int 0))) (dTup (dCons (dC (.str "next")) (dCons (dC (.str "down")) dNil)))))
abbrev W_does_end : WF := runD N_does_end ws_does_end
/-! is_tuple_of -/
abbrev N_is_tuple_of : List Str := ["thing", "many"]
def ws_is_tuple_of : DS := (dRet (dAndV (dIsTy "tuple" (dVar 0)) (dOp wEq (dCall wLen (dCons (dVar 0) dNil)) (dVar 1))))
abbrev W_is_tuple_of : WF := runD N_is_tuple_of ws_is_tuple_of
/-! is_integer -/
abbrev N_is_integer : List Str := ["thing"]
def ws_is_integer : DS := (dRet (dIsTy "int" (dVar 0)))
abbrev W_is_integer : WF := runD N_is_integer ws_is_integer
/-! grown -/
abbrev N_grown : List Str := ["purse", "content", "many", "size", "back"]
def ws_grown : DS := (dSeq (dAsg (dVar 0) (wgTup 2 (wgCons (fun r ρ P => asgD 3 r ρ P) (wgCons (fun r ρ P => asgD 4 r ρ P) wgNil))))
  (dRet (dCall wMin2 (dCons (dVar 3) (dCons (dOp wAdd (dVar 1) (dOp wMul (dVar 4) (dVar 2))) dNil)))))
abbrev W_grown : WF := runD N_grown ws_grown
/-! _law_names -/
abbrev N__law_names : List Str := ["hall", "machine"]
def ws__law_names : DS := (dRet (dLc (dIter (dOp wIx (dVar 0) (dC (.int 0)))) (fun r ρ P => asgD 1 r ρ P) dYes (dOp wIx (dVar 1) (dC (.int 0))) [1]))
abbrev W__law_names : WF := runD N__law_names ws__law_names
/-! _law_is_int -/
abbrev N__law_is_int : List Str := ["thing"]
def ws__law_is_int : DS := (dRet (dAndV (dIsi (isTyX "int") (dVar 0)) (dNotV (dIsi (isTyX "bool") (dVar 0)))))
abbrev W__law_is_int : WF := runD N__law_is_int ws__law_is_int
end Cm

namespace Cm
open PySem PySem.Spec PyProof.Rows L2 Vd Pd
/-! ### small defs of the program -/
def namesH (h : Hall) : List Str := h.ms.map (·.1)
def strsD (l : List Str) : List PyData := l.map PyData.str
def V_names_of : WF := fun as P => ∃ h : Hall, as = [.dat (hallD h)] ∧ h.ms.length ≤ 1000 ∧ P (.d (.tuple (strsD (namesH h))) .gd)
theorem w_names_of {as : List Sl} {P : DK} (hv : V_names_of as P) : W_names_of as P := by
  obtain ⟨h, rfl, few, p⟩ := hv
  refine ⟨_, rfl, rfl, rfl, lc_map machD (fun m => .str m.1) h.ms (by omega) (fun m _ acc k' few' h' => ?_) ?_⟩
  · exact ⟨rfl, _, rfl, rfl, few', h'⟩
  · have e : h.ms.map (fun m => PyData.str m.1) = strsD (namesH h) := by
      unfold strsD namesH
      rw [List.map_map]
      rfl
    rw [e]
    exact p
def V__law_names : WF := fun as P => ∃ h : Hall, as = [.dat (hallD h)] ∧ h.ms.length ≤ 1000 ∧ P (.d (.list (strsD (namesH h))) .fr)
theorem w__law_names {as : List Sl} {P : DK} (hv : V__law_names as P) : W__law_names as P := by
  obtain ⟨h, rfl, few, p⟩ := hv
  refine ⟨_, rfl, rfl, rfl, lc_map machD (fun m => .str m.1) h.ms (by omega) (fun m _ acc k' few' h' => ?_) ?_⟩
  · exact ⟨rfl, _, rfl, rfl, few', h'⟩
  · have e : h.ms.map (fun m => PyData.str m.1) = strsD (namesH h) := by
      unfold strsD namesH
      rw [List.map_map]
      rfl
    rw [e]
    exact p
/-! arcs -/
inductive Arc where | next (x : Str) | down (j : Nat) | up (j : Nat)
  deriving DecidableEq
def arcD : Arc → PyData
  | .next x => .tuple [.str "next", .str x]
  | .down j => .tuple [.str "down", .int (j : Nat)]
  | .up j => .tuple [.str "up", .int (j : Nat)]
theorem pure_arc (a : Arc) : pure_ (arcD a) = true := by cases a <;> rfl
def Arc.ends : Arc → Bool
  | .up _ => false
  | _ => true
def ArcOk (h : Hall) : Arc → Prop
  | .next x => x ∈ namesH h
  | .down j => j < h.bs.length
  | .up j => j < h.bs.length
def beltAt (h : Hall) (j : Nat) : Belt := h.bs.getD j ("", "", 0, 0)
def endH (h : Hall) : Arc → Str
  | .next x => x
  | .down j => (beltAt h j).2.1
  | .up j => (beltAt h j).1
def startH (h : Hall) : Arc → Str
  | .next x => x
  | .down j => (beltAt h j).1
  | .up j => (beltAt h j).2.1
def growH (h : Hall) : Arc → Int
  | .next _ => 1
  | .down j => (beltAt h j).2.2.2
  | .up j => (beltAt h j).2.2.1 - (beltAt h j).2.2.2
theorem atN {α : Type} {xs : List α} {j : Nat} {x : α} (h : xs[j]? = some x) : atI xs (j : Int) = some x := by
  have lt := (List.getElem?_eq_some_iff.mp h).1
  unfold atI ixN
  have e : (0 : Int) ≤ (j : Int) := by omega
  simp [lt]
  exact (List.getElem?_eq_some_iff.mp h).2
theorem belt_at {h : Hall} {j : Nat} (lt : j < h.bs.length) : atI (h.bs.map beltD) (j : Int) = some (beltD (beltAt h j)) := by
  refine atN ?_
  unfold beltAt
  rw [List.getElem?_map, List.getD_eq_getElem?_getD, List.getElem?_eq_getElem lt]
  rfl
def V_does_end : WF := fun as P => ∃ a : Arc, as = [.dat (arcD a)] ∧ P (atom (.bool a.ends))
theorem w_does_end {as : List Sl} {P : DK} (hv : V_does_end as P) : W_does_end as P := by
  obtain ⟨a, rfl, p⟩ := hv
  cases a with
  | next x => exact ⟨_, rfl, by decide, rfl, rfl, p⟩
  | down j => exact ⟨_, rfl, by decide, rfl, rfl, p⟩
  | up j => exact ⟨_, rfl, by decide, rfl, rfl, p⟩
def V_end_of : WF := fun as P => ∃ (h : Hall) (a : Arc), as = [.dat (hallD h), .dat (arcD a)] ∧ ArcOk h a ∧ P (atom (.str (endH h a)))
theorem w_end_of {as : List Sl} {P : DK} (hv : V_end_of as P) : W_end_of as P := by
  obtain ⟨h, a, rfl, ok, p⟩ := hv
  cases a with
  | next x => exact ⟨rfl, rfl, rfl, rfl, rfl, p⟩
  | down j => exact ⟨rfl, rfl, rfl, rfl, rfl, _, rfl, _, belt_at ok, _, rfl, p⟩
  | up j => exact ⟨rfl, rfl, rfl, rfl, rfl, _, rfl, _, belt_at ok, _, rfl, p⟩
def V_growth_of : WF := fun as P => ∃ (h : Hall) (a : Arc), as = [.dat (hallD h), .dat (arcD a)] ∧ ArcOk h a ∧ P (atom (.int (growH h a)))
theorem w_growth_of {as : List Sl} {P : DK} (hv : V_growth_of as P) : W_growth_of as P := by
  obtain ⟨h, a, rfl, ok, p⟩ := hv
  cases a with
  | next x => exact ⟨rfl, rfl, rfl, rfl, rfl, p⟩
  | down j => exact ⟨rfl, rfl, rfl, rfl, rfl, _, rfl, _, belt_at ok, rfl, rfl, rfl, rfl, rfl, rfl, rfl, p⟩
  | up j => exact ⟨rfl, rfl, rfl, rfl, rfl, _, rfl, _, belt_at ok, rfl, rfl, rfl, rfl, rfl, rfl, rfl, p⟩
/-! kinds -/
def isTup (n : Nat) : PyData → Bool
  | .tuple ds => decide (ds.length = n)
  | _ => false
def V_is_tuple_of : WF := fun as P => ∃ (d : PyData) (n : Nat), as = [.dat d, .dat (.int (n : Nat))] ∧ P (atom (.bool (isTup n d)))
theorem w_is_tuple_of {as : List Sl} {P : DK} (hv : V_is_tuple_of as P) : W_is_tuple_of as P := by
  obtain ⟨d, n, rfl, p⟩ := hv
  cases d with
  | tuple ds =>
    show P (atom (.bool (decide ((ds.length : Int) = (n : Int)))))
    have e : decide ((ds.length : Int) = (n : Int)) = isTup n (.tuple ds) := by
      show _ = decide (ds.length = n)
      by_cases h : ds.length = n
      · rw [decide_eq_true h, decide_eq_true (by omega)]
      · rw [decide_eq_false h, decide_eq_false (by omega)]
    rw [e]
    exact p
  | _ => exact p
def isInt : PyData → Bool
  | .int _ => true
  | _ => false
def V_is_integer : WF := fun as P => ∃ d : PyData, as = [.dat d] ∧ P (atom (.bool (isInt d)))
theorem w_is_integer {as : List Sl} {P : DK} (hv : V_is_integer as P) : W_is_integer as P := by
  obtain ⟨d, rfl, p⟩ := hv
  cases d <;> exact p
abbrev V__law_is_int : WF := V_is_integer
theorem w__law_is_int {as : List Sl} {P : DK} (hv : V__law_is_int as P) : W__law_is_int as P := by
  obtain ⟨d, rfl, p⟩ := hv
  cases d <;> exact p
def grownN (x : Purse) (c g : Int) : Int := min x.1 (c + x.2 * g)
def V_grown : WF := fun as P => ∃ (x : Purse) (c g : Int), as = [.dat (purseD x), .dat (.int c), .dat (.int g)] ∧ (-(2 ^ 64) < g ∧ g < 2 ^ 64) ∧ P (atom (.int (grownN x c g)))
theorem w_grown {as : List Sl} {P : DK} (hv : V_grown as P) : W_grown as P := by
  obtain ⟨x, c, g, rfl, b, p⟩ := hv
  refine ⟨rfl, rfl, rfl, rfl, rfl, .inr b, ?_⟩
  have e : (if c + x.2 * g < x.1 then c + x.2 * g else x.1) = grownN x c g := by
    unfold grownN
    omega
  show P (atom (.int (if c + x.2 * g < x.1 then c + x.2 * g else x.1)))
  rw [e]
  exact p
end Cm

/-! D13: sorted of tuples by their names; three lists at once -/
namespace Pd
open PySem PySem.Spec PyProof.Rows L2 Vd
section
variable {X : Cx} {pins : List (Addr × Obj)} {σ : L2.St} {H : Hp} {s : Shared}
theorem trio_is {d : PyData} (h : trioX d = true) : ∃ x i l, d = .tuple [.str x, .int i, .tuple l] := by
  unfold trioX at h
  split at h
  · exact ⟨_, _, _, rfl⟩
  · cases h
theorem dats3 {K : PySem.W.Frag} {xs : List V} {a b c : PyData} (h : DatAll K H xs [a, b, c]) : ∃ x y z, xs = [x, y, z] ∧ Dat K H x a ∧ Dat K H y b ∧ Dat K H z c := by
  cases h with
  | cons h1 h2 =>
    cases h2 with
    | cons h2 h3 =>
      cases h3 with
      | cons h3 h4 =>
        cases h4
        exact ⟨_, _, _, rfl, h1, h2, h3⟩
theorem vals3 {x y z : V} {us : List Value} (h : Vals [x, y, z] us) : ∃ u v w, us = [u, v, w] ∧ RelV x u ∧ RelV y v ∧ RelV z w := by
  cases h with
  | cons h1 h2 =>
    cases h2 with
    | cons h2 h3 =>
      cases h3 with
      | cons h3 h4 =>
        cases h4
        exact ⟨_, _, _, rfl, h1, h2, h3⟩
theorem trio_at (I : Inv X pins σ H s) {t : Addr} {d : PyData} (h : Dat X.K H (.ref t) d) (tr : trioX d = true) :
    ∃ (p : Addr) (o : Obj) (i : Int) (t1 t2 : Tok) (n : Nat), s.heap.get? t = some o ∧ o.cls = .type "tuple" ∧ o.data = .seq #[.str (nameX d) t1, .int i t2, .ref p] n := by
  obtain ⟨x, i, l, rfl⟩ := trio_is tr
  cases h with
  | tup sq all =>
    obtain ⟨v1, v2, v3, rfl, b1, b2, b3⟩ := dats3 all
    cases b1
    cases b2
    cases b3 with
    | tup sq2 all2 =>
      obtain ⟨its2, r2, ⟨o, ho, hc, n, hd⟩, _⟩ := I.tuple sq
      obtain ⟨u1, u2, u3, rfl, r1, r2, r3⟩ := vals3 r2
      obtain ⟨k1, e1⟩ := r1
      obtain ⟨k2, e2⟩ := r2
      subst e1 e2
      cases r3
      exact ⟨_, o, i, k1, k2, n, ho, hc, hd⟩
theorem same_name (I : Inv X pins σ H s) {t : Addr} {d d' : PyData} (h1 : Dat X.K H (.ref t) d) (t1 : trioX d = true) (h2 : Dat X.K H (.ref t) d') (t2 : trioX d' = true) : nameX d = nameX d' := by
  obtain ⟨p1, o, i1, a1, a2, n1, ho, _, hd⟩ := trio_at I h1 t1
  obtain ⟨p2, o', i2, b1, b2, n2, ho', _, hd'⟩ := trio_at I h2 t2
  rw [ho] at ho'
  cases ho'
  rw [hd] at hd'
  injection hd' with e1 _
  have e2 := congrArg Array.toList e1
  simp only [List.cons.injEq, Value.str.injEq] at e2
  exact e2.1.1
theorem trio_item {K : PySem.W.Frag} : ∀ {xs : List V} {ds : List PyData} {its : List Value}, Vals xs its → DatAll K H xs ds → ds.all trioX = true → ∀ (i : Nat) (v : Value), its[i]? = some v → ∃ (t : Addr) (d : PyData), v = .ref t ∧ xs[i]? = some (V.ref t) ∧ ds[i]? = some d ∧ Dat K H (.ref t) d ∧ trioX d = true
  | _, _, _, .nil, _, _, i, v, e => by simp at e
  | x :: xs, d :: ds, u :: us, .cons rx r, .cons a1 a2, tr, i, v, e => by
    rw [List.all_cons, Bool.and_eq_true] at tr
    cases i with
    | zero =>
      simp at e
      subst e
      obtain ⟨x1, i1, l, rfl⟩ := trio_is tr.1
      cases a1 with
      | @tup p ys _ sq1 all1 =>
        cases rx
        exact ⟨p, _, rfl, rfl, rfl, .tup sq1 all1, tr.1⟩
    | succ i =>
      obtain ⟨q, d', h1, h2, h3, h4, h5⟩ := trio_item r a2 tr.2 i v (by simpa using e)
      exact ⟨q, d', h1, by simpa using h2, by simpa using h3, h4, h5⟩
/-- a name for each value -/
def keyOf (its : List Value) (ds : List PyData) (v : Value) : Str := match its.findIdx? (fun u => u == v) with
  | some i => nameX (ds.getD i .none)
  | none => ""
theorem keyOf_at (I : Inv X pins σ H s) {xs : List V} {ds : List PyData} {its : List Value} (rv : Vals xs its) (dats : DatAll X.K H xs ds) (trio : ds.all trioX = true) {i : Nat} {v : Value} {d : PyData} (e : its[i]? = some v) (ed : ds[i]? = some d) : keyOf its ds v = nameX d := by
  obtain ⟨t, d0, rfl, hx, hd, dat, tr⟩ := trio_item rv dats trio i v e
  rw [ed] at hd
  cases hd
  have found : ∃ j, its.findIdx? (fun u => u == Value.ref t) = some j := by
    cases h : its.findIdx? (fun u => u == Value.ref t) with
    | some j => exact ⟨j, rfl⟩
    | none =>
      rw [List.findIdx?_eq_none_iff] at h
      have := h _ (List.mem_of_getElem? e)
      simp at this
  obtain ⟨j, hj⟩ := found
  obtain ⟨q, h1, _⟩ := List.findIdx?_eq_some_iff_getElem.mp hj
  have at_j : its[j]? = some (Value.ref t) := by
    rw [List.getElem?_eq_getElem q]
    simpa using h1
  obtain ⟨t', d', e', hx', hd', dat', tr'⟩ := trio_item rv dats trio j _ at_j
  cases e'
  unfold keyOf
  rw [hj]
  show nameX (ds.getD j .none) = nameX d
  rw [List.getD_eq_getElem?_getD, hd']
  exact same_name I dat' tr' dat tr
theorem srtd_unmap {α : Type} {f : α → Str} {l : List α} (h : SrtO.Srtd (fun x y => ahead x y) (l.map f)) : SrtO.Srtd (fun x y => ahead (f x) (f y)) l := List.pairwise_map.mp h
end
section
variable {X : Cx}
theorem call_sortN : CallR X (.builtin "sorted") (rSortN X.K) := by
  rintro pins s σ H vs us Q I rel ⟨a, xs, ds, F, rfl, sq, sub, datsF, trio, nod, fin⟩
  have dats := DatAll.up sub datsF
  obtain ⟨its, rv, pl, few⟩ := I.list sq
  obtain ⟨u, rfl, ru⟩ := vals1 rel
  cases (show u = Value.ref a from ru)
  have trioV : ∀ v ∈ its, Trio s.heap v (keyOf its ds v) := by
    intro v m
    obtain ⟨i, e⟩ := List.mem_iff_getElem?.mp m
    obtain ⟨t, d, rfl, hx, hd, dat, tr⟩ := trio_item rv dats trio i v e
    obtain ⟨p, o, j, t1, t2, n, ho, hc, hdd⟩ := trio_at I dat tr
    rw [keyOf_at I rv dats trio e hd]
    exact ⟨t, p, o, j, t1, t2, n, rfl, ho, hc, hdd⟩
  have injV : ∀ v ∈ its, ∀ u ∈ its, keyOf its ds v = keyOf its ds u → v = u := by
    intro v m u m' e
    obtain ⟨i, e1⟩ := List.mem_iff_getElem?.mp m
    obtain ⟨j, e2⟩ := List.mem_iff_getElem?.mp m'
    obtain ⟨t, d, rfl, hx, hd, dat, tr⟩ := trio_item rv dats trio i v e1
    obtain ⟨t', d', rfl, hx', hd', dat', tr'⟩ := trio_item rv dats trio j u e2
    rw [keyOf_at I rv dats trio e1 hd, keyOf_at I rv dats trio e2 hd'] at e
    have ij : i = j := by
      refine L2.nodup_ix nod (x := nameX d) ?_ ?_
      · rw [List.getElem?_map, hd]; rfl
      · rw [List.getElem?_map, hd']
        exact congrArg some e.symm
    subst ij
    rw [e1] at e2
    exact Option.some.inj e2
  refine trio_sorted pl.isList (by rw [← rv.length]; exact few) trioV injV fun h' d out so perm kept new at_d => ?_
  have refs : ∀ v ∈ its, ∃ t, v = Value.ref t := fun v m => by
    obtain ⟨i, e⟩ := List.mem_iff_getElem?.mp m
    obtain ⟨t, _, h, _⟩ := trio_item rv dats trio i v e
    exact ⟨t, h⟩
  have refs2 : ∀ v ∈ out, ∃ t, v = Value.ref t := fun v m => refs v (perm.mem_iff.mp m)
  have isRef : ∀ x ∈ xs, ∃ t, x = V.ref t := fun x m => by
    obtain ⟨i, e⟩ := List.mem_iff_getElem?.mp m
    obtain ⟨u, eu, ru⟩ := rv.get e
    obtain ⟨t, _, h, hx, _⟩ := trio_item rv dats trio i u eu
    rw [e] at hx
    exact ⟨t, Option.some.inj hx⟩
  obtain ⟨back, _⟩ := refs_back rv isRef
  obtain ⟨n, at_d⟩ := at_d
  have permV : (out.map backV).Perm xs := by
    rw [back]
    exact perm.map _
  obtain ⟨es, doutF, pes⟩ := perm_dats permV datsF
  have dout := DatAll.up sub doutF
  have trioE : es.all trioX = true := List.all_eq_true.mpr fun x m => List.all_eq_true.mp trio x (pes.mem_iff.mp m)
  have outV : Vals (out.map backV) out := vals_back refs2
  have l2 : es.length = out.length := by rw [← dats_len dout, List.length_map]
  have names : ∀ (i : Nat) (v : Value) (e : PyData), out[i]? = some v → es[i]? = some e → keyOf its ds v = nameX e := by
    intro i v e h1 h2
    obtain ⟨t, d', rfl, hx, hd, dat, tr⟩ := trio_item outV dout trioE i v h1
    rw [h2] at hd
    cases hd
    have m : Value.ref t ∈ its := perm.mem_iff.mp (List.mem_of_getElem? h1)
    obtain ⟨j, e2⟩ := List.mem_iff_getElem?.mp m
    obtain ⟨t', d', e', hx', hd', dat', tr'⟩ := trio_item rv dats trio j _ e2
    cases e'
    rw [keyOf_at I rv dats trio e2 hd']
    exact same_name I dat' tr' dat tr
  have mapEq : out.map (keyOf its ds) = es.map nameX := by
    apply List.ext_getElem?
    intro i
    rw [List.getElem?_map, List.getElem?_map]
    by_cases lt : i < out.length
    · rw [List.getElem?_eq_getElem lt, List.getElem?_eq_getElem (by omega)]
      exact congrArg some (names i _ _ (List.getElem?_eq_getElem lt) (List.getElem?_eq_getElem (by omega)))
    · rw [List.getElem?_eq_none (by omega), List.getElem?_eq_none (by omega)]
      rfl
  have srtE : SrtO.Srtd (fun x y => ahead (nameX x) (nameX y)) es := by
    have h1 : SrtO.Srtd (fun x y => ahead x y) (out.map (keyOf its ds)) := SrtO.srtd_map (f := keyOf its ds) so
    rw [mapEq] at h1
    exact srtd_unmap h1
  refine ⟨.ref d, upd H d (.lst (out.map backV)), I.laid (t' := s.toks) kept new ⟨?_, out, n, outV, at_d⟩, rfl, fin _ es d doutF permV pes srtE (I.hok.fresh new)⟩
  rw [permV.length_eq]
  exact few
end
end Pd

/-! D14: sorted by data; three lists at once -/
namespace Pd
open PySem PySem.Spec PyProof.Rows L2 Vd
open Classical
def wSortN : WC := w1 fun x f P => match x with
  | .list ds => ds.all trioX = true ∧ (ds.map nameX).Nodup ∧ ∀ es : List PyData, es.Perm ds → SrtO.Srtd (fun x y => ahead (nameX x) (nameX y)) es → P (.d (.list es) (flIf (f.parts || pures ds) .fr))
  | _ => False
section
variable {K : PySem.W.Frag}
theorem cs_sortN : CallS K (rSortN K) wSortN := ⟨fun W ρ σ H H1 vs rs P Q S s es h q => by
  obtain ⟨x, f, rfl, h⟩ := w1_of h
  obtain ⟨v, rfl, e⟩ := one_of es
  cases x with
  | list ds =>
    obtain ⟨trio, nod, p⟩ := h
    obtain ⟨a, xs, rfl, sq, w, g⟩ := ER.lst S s e
    cases ef : (f.parts || pures ds) with
    | true =>
      refine ⟨a, xs, ds, res (okg W ρ σ) H1, rfl, sq, res_sub, g ef, trio, nod, fun ys es q0 dys _ pes srt nq => ?_⟩
      have := er_lst (b := true) S s nq (DatAll.up resg_w dys) fun _ => dys
      refine q _ _ _ (Bu.of (same_new nq)) this ?_
      have := p es pes srt
      rw [ef] at this
      exact this
    | false =>
      refine ⟨a, xs, ds, res (okw W) H1, rfl, sq, res_sub, w, trio, nod, fun ys es q0 dys _ pes srt nq => ?_⟩
      have := er_lst (b := false) S s nq dys fun z => by cases z
      refine q _ _ _ (Bu.of (same_new nq)) this ?_
      have := p es pes srt
      rw [ef] at this
      exact this
  | _ => exact h.elim⟩
variable {X : Cx} {e : Expr} {es : List Expr} {p pos : Pos} {tA : TA} {wA : DA}
theorem g_sortN (hK : X.K = K) (hg : Gl X "sorted") (hm : X.mg "sorted" = none) (ha : PDA X (e :: es) tA wA) (he : starEach (e :: es) X.env = (false, eval e X.env) :: starEach es X.env := by rfl) (hpl : (backTo pos (starEach es X.env)).any (·.1) = false := by rfl) :
    PD X (.Call (.Name "sorted" p) (e :: es) [] pos) (tCB (rSortN K) tA) (dCall wSortN wA) := by subst hK; exact pd_callB call_sortN cs_sortN hg hm (by decide +kernel) ha (by decide) (by decide) he hpl
/-! ### three lists at once -/
def partsPure : PyData → Bool
  | .list ds => pures ds
  | _ => false
def parOOO (i j l : Nat) (rs : List Dv) (ρ : Ro) (P : Ro → Prop) : Prop := match rs with
  | [.d x .fr, .d y .fr, .d z .fr] => partsPure x = true ∧ partsPure y = true ∧ partsPure z = true ∧ P (((ρ.set i (.own x)).set j (.own y)).set l (.own z))
  | _ => False
/-- a list of pure things becomes a slot's own -/
theorem set_pure {W : Wd} {ρ : Ro} {σ : L2.St} {G G1 : Hp} {i : Nat} {p : Addr} {vs : List V} {ds : List PyData} {F : Hp} (S : Sim K W ρ σ G) (s : Bu W.β G G1) (n : G p = none) (e : G1 p = some (.lst vs)) (pu : pures ds = true) (d : DatAll K F vs ds)
    (sub : ∀ q o, F q = some o → Tup o → okw W q ∧ ¬ IsOwn ρ σ q ∧ G1 q = some o) : Sim K W (ρ.set i (.own (.list ds))) (σ.set i (some (.ref p))) G1 ∧ Fwd W ρ σ G (ρ.set i (.own (.list ds))) (σ.set i (some (.ref p))) G1 := by
  have ok := S.okg_new n
  refine sim_set (i := i) (s := .own (.list ds)) (u := some (.ref p)) S s (fun y q z1 z2 => by cases z2; exact n) ⟨p, rfl, ok.1, (S.new n).1, vs, e, pures_up (fun q o h t => ?_) pu d⟩
  obtain ⟨a, b, c⟩ := sub q o h t
  refine res_at.mpr ⟨⟨a, fun z => ?_⟩, c⟩
  rcases own_set (W := W) z with z | ⟨y, _, e1⟩
  · exact b z
  · cases e1
    rw [e] at c
    cases c
    rcases t with ⟨_, t⟩ | ⟨_, _, t⟩ <;> cases t
theorem three_of {W : Wd} {ρ : Ro} {σ : L2.St} {H H1 : Hp} {vs : List V} {r1 r2 r3 : Dv} (h : ERs K W ρ σ H H1 vs [r1, r2, r3]) : ∃ u v w, vs = [u, v, w] ∧ ER K W ρ σ H H1 u r1 ∧ ER K W ρ σ H H1 v r2 ∧ ER K W ρ σ H H1 w r3 ∧
    (∀ p, frAt r1 u p → ¬ frAt r2 v p ∧ ¬ frAt r3 w p) ∧ (∀ p, frAt r2 v p → ¬ frAt r3 w p) := by
  cases h with
  | @cons u _ _ _ a ap h =>
    cases h with
    | @cons v _ _ _ b bp h =>
      cases h with
      | @cons w _ _ _ c cp h =>
        cases h
        exact ⟨u, v, w, rfl, a, b, c, fun p f => ⟨fun g => ap p 0 _ _ f rfl rfl g, fun g => ap p 1 _ _ f rfl rfl g⟩, fun p f g => bp p 0 _ _ f rfl rfl g⟩
theorem fr_list {W : Wd} {ρ : Ro} {σ : L2.St} {H H1 : Hp} {v : V} {x : PyData} (e : ER K W ρ σ H H1 v (.d x .fr)) (pu : partsPure x = true) : ∃ p vs ds, v = .ref p ∧ x = .list ds ∧ H p = none ∧ H1 p = some (.lst vs) ∧ pures ds = true ∧ DatAll K (res (okg W ρ σ) H1) vs ds := by
  obtain ⟨p, e1, n, c⟩ := e
  cases x with
  | list ds =>
    obtain ⟨vs, at_p, all⟩ := c
    exact ⟨p, vs, ds, e1, rfl, n, at_p, pu, DatAll.up resgp_g all⟩
  | _ => cases pu
noncomputable def less (D : Addr → Prop) (H1 : Hp) : Hp := fun q => if D q then none else H1 q
theorem less_no {D : Addr → Prop} {H1 : Hp} {q : Addr} (n : ¬ D q) : less D H1 q = H1 q := if_neg n
theorem less_yes {D : Addr → Prop} {H1 : Hp} {q : Addr} (n : D q) : less D H1 q = none := if_pos n
theorem bu_less {β : Option Addr} {H H1 : Hp} (D : Addr → Prop) (x : Bu β H H1) (n : ∀ p, D p → H p = none) : Bu β H (less D H1) := by
  have keep : ∀ {p : Addr} {o o' : HO}, H p = some o → H1 p = some o' → less D H1 p = some o' := fun {p o o'} e e' => by
    rw [less_no fun z => by rw [n p z] at e; cases e]
    exact e'
  cases β with
  | none => exact fun p o e => keep e (x p o e)
  | some b => exact ⟨fun p o ne e => keep e (x.1 p o ne e), fun i j k c e => by
      obtain ⟨i', j', k', e'⟩ := x.2 i j k c e
      exact ⟨i', j', k', keep e e'⟩⟩
theorem bu_more {β : Option Addr} {H1 : Hp} {D D' : Addr → Prop} (h : ∀ p, D' p → D p) : Bu β (less D H1) (less D' H1) := Bu.of fun p o e => by
  by_cases z : D p
  · rw [less_yes z] at e
    cases e
  · rw [less_no z] at e
    rw [less_no fun w => z (h p w)]
    exact e
theorem snds_parOOO {i j l : Nat} {ta : TA} {wa : DA} (ij : i ≠ j) (il : i ≠ l) (jl : j ≠ l) (h : SndA K ta wa) : SndS K (tPar3 i j l ta) (dPar (parOOO i j l) wa) := ⟨fun W ρ σ H De D S hw L =>
  h.go W ρ σ H _ _ S hw fun rs vs H1 s1 e1 p1 => by
    unfold parOOO at p1
    split at p1
    · rename_i x y z
      obtain ⟨u, v, w, rfl, q1, q2, q3, a12, a23⟩ := three_of e1
      obtain ⟨px, py, pz, p1⟩ := p1
      obtain ⟨a, us, ds, rfl, rfl, na, at_a, pua, da⟩ := fr_list q1 px
      obtain ⟨b, vs', es, rfl, rfl, nb, at_b, pub, db⟩ := fr_list q2 py
      obtain ⟨c, ws, fs, rfl, rfl, nc, at_c, puc, dc⟩ := fr_list q3 pz
      have ab : a ≠ b := fun e => (a12 a rfl).1 (by rw [e]; rfl)
      have ac : a ≠ c := fun e => (a12 a rfl).2 (by rw [e]; rfl)
      have bc : b ≠ c := fun e => a23 b rfl (by rw [e]; rfl)
      have x1 : Bu W.β H (less (fun q => q = b ∨ q = c) H1) := bu_less (fun q => q = b ∨ q = c) s1 fun p z => by
        rcases z with z | z
        · rw [z]; exact nb
        · rw [z]; exact nc
      have x2 : Bu W.β (less (fun q => q = b ∨ q = c) H1) (less (fun q => q = c) H1) := bu_more fun p z => .inr z
      have x3 : Bu W.β (less (fun q => q = c) H1) H1 := Bu.of fun p o e => by
        by_cases z : p = c
        · rw [less_yes (D := fun q => q = c) z] at e; cases e
        · rwa [less_no (D := fun q => q = c) z] at e
      have tupNe : ∀ {q : Addr} {o : HO} {r : Addr} {l : List V}, H1 q = some o → Tup o → H1 r = some (.lst l) → q ≠ r := fun {q o r l} e t e2 z => by
        rw [z, e2] at e
        cases e
        rcases t with ⟨_, t⟩ | ⟨_, _, t⟩ <;> cases t
      have g1 : ∀ {q : Addr} {o : HO}, H1 q = some o → Tup o → less (fun q => q = b ∨ q = c) H1 q = some o := fun {q o} e t => by
        rw [less_no (D := fun q => q = b ∨ q = c) fun z => z.elim (tupNe e t at_b) (tupNe e t at_c)]
        exact e
      have g2 : ∀ {q : Addr} {o : HO}, H1 q = some o → Tup o → less (fun q => q = c) H1 q = some o := fun {q o} e t => by
        rw [less_no (D := fun q => q = c) (tupNe e t at_c)]
        exact e
      have ga : less (fun q => q = b ∨ q = c) H1 a = some (.lst us) := by
        rw [less_no (D := fun q => q = b ∨ q = c) fun z => z.elim ab ac]
        exact at_a
      have gb0 : less (fun q => q = b ∨ q = c) H1 b = none := less_yes (D := fun q => q = b ∨ q = c) (.inl rfl)
      have gb : less (fun q => q = c) H1 b = some (.lst vs') := by
        rw [less_no (D := fun q => q = c) bc]
        exact at_b
      have gc0 : less (fun q => q = c) H1 c = none := less_yes (D := fun q => q = c) rfl
      obtain ⟨S1, f1⟩ := set_pure (i := i) S x1 na ga pua da fun q o e t => ⟨(res_at.mp e).1.1, (res_at.mp e).1.2, g1 (res_at.mp e).2 t⟩
      have own1 : ∀ q o, H1 q = some o → Tup o → ¬ IsOwn ρ σ q → ¬ IsOwn (ρ.set i (.own (.list ds))) (σ.set i (some (.ref a))) q := fun q o e t no z => by
        rcases own_set (W := W) z with z | ⟨y, _, e1⟩
        · exact no z
        · cases e1
          exact tupNe e t at_a rfl
      obtain ⟨S2, f2⟩ := set_pure (i := j) S1 x2 gb0 gb pub db fun q o e t => ⟨(res_at.mp e).1.1, own1 q o (res_at.mp e).2 t (res_at.mp e).1.2, g2 (res_at.mp e).2 t⟩
      have own2 : ∀ q o, H1 q = some o → Tup o → ¬ IsOwn ρ σ q → ¬ IsOwn ((ρ.set i (.own (.list ds))).set j (.own (.list es))) ((σ.set i (some (.ref a))).set j (some (.ref b))) q := fun q o e t no z => by
        rcases own_set (W := W) z with z | ⟨y, _, e1⟩
        · exact own1 q o e t no z
        · cases e1
          exact tupNe e t at_b rfl
      obtain ⟨S3, f3⟩ := set_pure (i := l) S2 x3 gc0 at_c puc dc fun q o e t => ⟨(res_at.mp e).1.1, own2 q o (res_at.mp e).2 t (res_at.mp e).1.2, (res_at.mp e).2⟩
      exact ⟨_, _, _, rfl, L.nx _ _ _ S3 ((f1.trans f2).trans f3) p1⟩
    · exact p1.elim⟩
end
section
variable {X : Cx} {a b c : Expr} {pos : Pos} {tA : TA} {wA : DA} {i j l : Nat} {x y z : Str} {px py pz pt : Pos}
theorem pd_parOOO {kt k2 pt2} (hc : X.calm = true) (hN : X.N.Nodup) (hi : X.N[i]? = some x) (hj : X.N[j]? = some y) (hl : X.N[l]? = some z) (hij : i ≠ j) (hil : i ≠ l) (hjl : j ≠ l)
    (hx : X.env.scope.names.lookup x = some .local) (hy : X.env.scope.names.lookup y = some .local) (hz : X.env.scope.names.lookup z = some .local) (ha : PDA X [a, b, c] tA wA)
    (hw : swappedStores [.Tuple [.Name x px, .Name y py, .Name z pz] kt pt] (.Tuple [a, b, c] k2 pt2) X.env = pure (some [x, y, z]))
    (hs : swapsWithSole [.Tuple [.Name x px, .Name y py, .Name z pz] kt pt] (.Tuple [a, b, c] k2 pt2) pos.line X.env = pure false := by rfl) :
    PDS X (.Assign [.Tuple [.Name x px, .Name y py, .Name z pz] kt pt] (.Tuple [a, b, c] k2 pt2) pos) (tPar3 i j l tA) (dPar (parOOO i j l) wA) := ⟨ps_par3 hc hN hi hj hl hij hil hjl hx hy hz ha.pa hw hs, snds_parOOO hij hil hjl ha.snd⟩
end
end Pd

namespace Cm
open PySem PySem.Spec PyProof.Rows L2 Vd Pd
/-! C2: drawn things -/
/-- a comprehension whose parts are any of some kind -/
theorem lc_any {α : Type} {wg : WG} {wt : DT} {we : DE} {ρw : Ro} (f : α → PyData) (J : Nat → List PyData → Prop) {k : List PyData → Prop} :
    ∀ (xs : List α) (n : Nat) (acc : List PyData), J n acc → acc.length + xs.length ≤ 1000000 →
    (∀ a ∈ xs, ∀ (n : Nat) (acc' : List PyData) (k' : List PyData → Prop), J n acc' → acc'.length < 1000000 → (∀ acc2, acc2.length ≤ acc'.length + 1 → J (n + 1) acc2 → k' acc2) → wg (.d (f a) .gd) ρw fun ρ2 => wt ρ2 fun b => if b = true then we ρ2 fun r => onD r fun x fl => goodF fl x = true ∧ acc'.length < 1000000 ∧ k' (acc' ++ [x]) else k' acc') →
    (∀ acc2, J (n + xs.length) acc2 → k acc2) → lcL wg wt we ρw (xs.map f) acc k
  | [], n, acc, j, _, _, h => h acc (by simpa using j)
  | a :: xs, n, acc, j, few, step, h => by
    rw [List.length_cons] at few
    refine step a (.head _) n acc (fun acc2 => lcL wg wt we ρw (xs.map f) acc2 k) j (by omega) fun acc2 l2 j2 => ?_
    refine lc_any f J xs (n + 1) acc2 j2 (by omega) (fun b m => step b (.tail _ m)) fun acc3 j3 => h acc3 ?_
    have : n + (a :: xs).length = n + 1 + xs.length := by rw [List.length_cons]; omega
    rw [this]
    exact j3
/-! ### the bag -/
def V__law_take : WF := fun as P => ∃ m : Int, as = [.bag, .dat (.int m)] ∧ 0 < m ∧ m < 1073741824 ∧ ∀ k : Int, 0 ≤ k → k < m → P (atom (.int k))
/-! _law_some -/
abbrev N__law_some : List Str := ["bag", "things"]
def ws__law_some : DS := (dRet (dOp wIx (dVar 1) (dOwn 2 V__law_take (dCons (dVar 0) (dCons (dCall wLen (dCons (dVar 1) dNil)) dNil)))))
abbrev W__law_some : WF := runD N__law_some ws__law_some
def V__law_some : WF := fun as P => ∃ ds : List PyData, as = [.bag, .dat (.list ds)] ∧ 0 < ds.length ∧ ds.length < 1000000 ∧ ∀ x ∈ ds, P (.d x .gd)
theorem w__law_some {as : List Sl} {P : DK} (hv : V__law_some as P) : W__law_some as P := by
  obtain ⟨ds, rfl, pos, few, p⟩ := hv
  refine ⟨rfl, _, rfl, by omega, by omega, fun k k0 k1 => ?_⟩
  obtain ⟨j, rfl⟩ := Int.eq_ofNat_of_zero_le k0
  have lt : j < ds.length := by omega
  exact ⟨ds[j], atN (List.getElem?_eq_getElem lt), p _ (List.getElem_mem lt)⟩
/-! _law_mixed -/
abbrev N__law_mixed : List Str := ["bag", "things", "found", "thing"]
def ws__law_mixed : DS := (dSeq (dSetO 2 (dLst dNil))
  (dSeq (dFor (dIter (dVar 1)) (fun r ρ P => asgD 3 r ρ P)
  (dIns 2 (dCons (dOwn 2 V__law_take (dCons (dVar 0) (dCons (dOp wAdd (dCall wLen (dCons (dVar 2) dNil)) (dC (.int 1))) dNil))) (dCons (dVar 3) dNil))))
  (dRetO 2)))
abbrev W__law_mixed : WF := runD N__law_mixed ws__law_mixed
def V__law_mixed : WF := fun as P => ∃ ds : List PyData, as = [.bag, .dat (.list ds)] ∧ ds.length < 1000000 ∧ ∀ es : List PyData, es.Perm ds → P (.d (.list es) .fr)
theorem w__law_mixed {as : List Sl} {P : DK} (hv : V__law_mixed as P) : W__law_mixed as P := by
  obtain ⟨ds, rfl, few, p⟩ := hv
  refine ⟨by decide, rfl, for_gen0 (fun done ρ => ∃ es s3, ρ = [.bag, .dat (.list ds), .own (.list es), s3] ∧ es.Perm done) ds _ ⟨[], _, rfl, .nil⟩ ?_ ?_⟩
  · rintro done a rest _ C e ⟨es, s3, rfl, pe⟩ next
    have len := pe.length_eq
    have l2 : ds.length = done.length + (rest.length + 1) := by rw [e, List.length_append, List.length_cons]
    refine ⟨rfl, rfl, _, rfl, by omega, by omega, fun k k0 k1 => ⟨rfl, k0, by omega, by omega, next _ ⟨_, _, rfl, ?_⟩⟩⟩
    have e1 : (es.take k.toNat ++ [a] ++ es.drop k.toNat).Perm (es.take k.toNat ++ es.drop k.toNat ++ [a]) := by
      rw [List.append_assoc, List.append_assoc]
      exact List.Perm.append_left _ List.perm_append_comm
    rw [List.take_append_drop] at e1
    exact e1.trans (pe.append_right _)
  · rintro _ ⟨es, s3, rfl, pe⟩
    exact p es pe
/-! _law_purses -/
abbrev N__law_purses : List Str := ["bag", "most", "many", "turn"]
def ws__law_purses : DS := (dSeq (dSetD 2 (dOwn 2 V__law_some (dCons (dVar 0) (dCons (dLst (dCons (dC (.int 1)) (dCons (dC (.int 0)) (dCons (dC (.int 1)) (dCons (dC (.int 1)) (dCons (dC (.int 2)) dNil)))))) dNil))))
  (dRet (dCall wTuple (dCons (dLc (dRng1 (dCons (dVar 2) dNil)) (fun r ρ P => asgD 3 r ρ P) dYes (dTup (dCons (dOp wAdd (dC (.int 1)) (dOwn 2 V__law_take (dCons (dVar 0) (dCons (dVar 1) dNil)))) (dCons (dOwn 2 V__law_some (dCons (dVar 0) (dCons (dLst (dCons (dC (.int 0)) (dCons (dC (.int 0)) (dCons (dC (.int 1)) (dCons (dC (.int 2)) (dCons (dC (.int 1)) dNil)))))) dNil))) dNil))) [3]) dNil))))
abbrev W__law_purses : WF := runD N__law_purses ws__law_purses
/-! _law_first -/
abbrev N__law_first : List Str := ["bag", "room"]
def ws__law_first : DS := (dRet (dOwn 2 V__law_some (dCons (dVar 0) (dCons (dLst (dCons (dVar 1) (dCons (dVar 1) (dCons (dC (.int 0)) (dCons (dOwn 2 V__law_take (dCons (dVar 0) (dCons (dOp wAdd (dVar 1) (dC (.int 1))) dNil))) dNil))))) dNil))))
abbrev W__law_first : WF := runD N__law_first ws__law_first
abbrev PurseOk (most : Int) (x : Purse) : Prop := 1 ≤ x.1 ∧ x.1 ≤ most ∧ 0 ≤ x.2 ∧ x.2 ≤ 2
def V__law_purses : WF := fun as P => ∃ most : Int, as = [.bag, .dat (.int most)] ∧ 0 < most ∧ most < 1000000 ∧ ∀ l : List Purse, l.length ≤ 2 → (∀ x ∈ l, PurseOk most x) → P (.d (pursesD l) .gd)
theorem w__law_purses {as : List Sl} {P : DK} (hv : V__law_purses as P) : W__law_purses as P := by
  obtain ⟨most, rfl, pos, few, p⟩ := hv
  refine ⟨by decide, rfl, _, rfl, by decide, by decide, fun x mx => ?_⟩
  obtain ⟨many, rfl, m2⟩ : ∃ many : Nat, x = .int (many : Nat) ∧ many ≤ 2 := by
    simp only [List.mem_cons, List.not_mem_nil, or_false] at mx
    rcases mx with e | e | e | e | e
    · exact ⟨1, e, by decide⟩
    · exact ⟨0, e, by decide⟩
    · exact ⟨1, e, by decide⟩
    · exact ⟨1, e, by decide⟩
    · exact ⟨2, e, by decide⟩
  refine ⟨rfl, by omega, by omega, rfl, ?_⟩
  refine lc_any (fun i : Nat => PyData.int (0 + (i : Nat))) (fun n acc => ∃ l : List Purse, acc = l.map purseD ∧ l.length = n ∧ ∀ x ∈ l, PurseOk most x) (List.range ((many : Nat) : Int).toNat) 0 [] ⟨[], rfl, rfl, fun x m => (nomatch m)⟩ (by simp; omega) ?_ ?_
  · rintro i _ n acc k' ⟨l, rfl, ln, ok⟩ few' next
    refine ⟨rfl, rfl, _, rfl, pos, by omega, fun s s0 s1 => ⟨by decide, rfl, _, rfl, by decide, by decide, fun y my => ?_⟩⟩
    obtain ⟨b, rfl, b0, b2⟩ : ∃ b : Int, y = .int b ∧ 0 ≤ b ∧ b ≤ 2 := by
      simp only [List.mem_cons, List.not_mem_nil, or_false] at my
      rcases my with e | e | e | e | e
      · exact ⟨_, e, by decide, by decide⟩
      · exact ⟨_, e, by decide, by decide⟩
      · exact ⟨_, e, by decide, by decide⟩
      · exact ⟨_, e, by decide, by decide⟩
      · exact ⟨_, e, by decide, by decide⟩
    refine ⟨leb rfl, rfl, few', next _ (by simp) ⟨l ++ [(1 + s, b)], by rw [List.map_append]; rfl, by rw [List.length_append, ln]; rfl, fun x mx => ?_⟩⟩
    rcases List.mem_append.mp mx with mx | mx
    · exact ok x mx
    · rw [List.mem_singleton.mp mx]
      exact ⟨by show 1 ≤ 1 + s; omega, by show 1 + s ≤ most; omega, b0, b2⟩
  · rintro _ ⟨l, rfl, ln, ok⟩
    refine p l ?_ ok
    rw [List.length_range] at ln
    omega
def V__law_first : WF := fun as P => ∃ room : Int, as = [.bag, .dat (.int room)] ∧ 0 < room ∧ room < 1000000 ∧ ∀ k : Int, 0 ≤ k → k ≤ room → P (atom (.int k))
theorem w__law_first {as : List Sl} {P : DK} (hv : V__law_first as P) : W__law_first as P := by
  obtain ⟨room, rfl, pos, few, p⟩ := hv
  refine ⟨rfl, _, rfl, by omega, by omega, fun k k0 k1 => ⟨Nat.le_of_ble_eq_true rfl, rfl, _, rfl, by show 0 < 4; decide, by show 4 < 1000000; decide, fun x mx => ?_⟩⟩
  simp only [List.mem_cons, List.not_mem_nil, or_false] at mx
  rcases mx with e | e | e | e
  · subst e; exact p _ (by omega) (by omega)
  · subst e; exact p _ (by omega) (by omega)
  · subst e; exact p _ (by omega) (by omega)
  · subst e; exact p _ (by omega) (by omega)
end Cm

namespace Cm
open PySem PySem.Spec PyProof.Rows L2 Vd Pd
/-! C3: drawn halls -/
theorem perm_map {α β : Type} {f : α → β} {es : List β} : ∀ {l : List α}, es.Perm (l.map f) → ∃ l' : List α, es = l'.map f ∧ l'.Perm l := by
  intro l h
  generalize hd : l.map f = ds at h
  induction h generalizing l with
  | nil => exact ⟨[], rfl, by cases l with | nil => exact .nil | cons a l => cases hd⟩
  | cons x _ ih =>
    cases l with
    | nil => cases hd
    | cons a l =>
      injection hd with h1 h2
      subst h1
      obtain ⟨l', rfl, p⟩ := ih h2
      exact ⟨a :: l', rfl, p.cons a⟩
  | swap x y r =>
    match l, hd with
    | a :: b :: l, hd =>
      injection hd with h1 h2
      injection h2 with h2 h3
      subst h1 h2 h3
      exact ⟨b :: a :: l, rfl, .swap _ _ _⟩
  | trans _ _ ih1 ih2 =>
    obtain ⟨l2, e2, p2⟩ := ih2 hd
    obtain ⟨l1, e1, p1⟩ := ih1 e2.symm
    exact ⟨l1, e1, p1.trans p2⟩
def cutA {α : Type} (l : List α) (lo hi : Option Int) : List α := (l.drop (HT.sIx l.length 0 lo)).take (HT.sIx l.length l.length hi - HT.sIx l.length 0 lo)
theorem cutD_map {α : Type} (f : α → PyData) (l : List α) (lo hi : Option Int) : Pd.cutD (l.map f) lo hi = (cutA l lo hi).map f := by
  unfold Pd.cutD cutA
  rw [List.length_map, List.map_take, List.map_drop]
theorem cut_to {α : Type} (l : List α) (k : Nat) : cutA l none (some (k : Int)) = l.take k := by
  unfold cutA
  rw [HT.sIx_none, HT.sIx_nat, List.drop_zero, Nat.sub_zero]
  by_cases h : k ≤ l.length
  · rw [Nat.min_eq_left h]
  · rw [Nat.min_eq_right (by omega), List.take_length, List.take_of_length_le (by omega)]
theorem cut_from {α : Type} (l : List α) (k : Nat) : cutA l (some (k : Int)) none = l.drop k := by
  unfold cutA
  rw [HT.sIx_none, HT.sIx_nat]
  by_cases h : k ≤ l.length
  · rw [Nat.min_eq_left h]
    exact List.take_of_length_le (by rw [List.length_drop]; exact Nat.le_refl _)
  · rw [Nat.min_eq_right (by omega), Nat.sub_self, List.take_zero, List.drop_of_length_le (by omega)]
def eight : List Str := ["cap", "box", "wash", "sort", "lab", "a", "tray", "z"]
def seven : List Str := ["cap", "box", "wash", "sort", "lab", "a", "tray"]
/-- from one machine one comes to another along belts, whichever way these lead -/
inductive Reach (bs : List Belt) (x : Str) : Str → Prop
  | here : Reach bs x x
  | ahead {y : Str} {m : Belt} : Reach bs x y → m ∈ bs → m.1 = y → Reach bs x m.2.1
  | back {y : Str} {m : Belt} : Reach bs x y → m ∈ bs → m.2.1 = y → Reach bs x m.1
theorem Reach.more {bs cs : List Belt} {x y : Str} (sub : ∀ m ∈ bs, m ∈ cs) (h : Reach bs x y) : Reach cs x y := by
  induction h with
  | here => exact .here
  | ahead _ m e ih => exact .ahead ih (sub _ m) e
  | back _ m e ih => exact .back ih (sub _ m) e
/-- the same belts but for room and first -/
theorem Reach.like {bs cs : List Belt} {x y : Str} (sub : ∀ m ∈ bs, ∃ m' ∈ cs, m'.1 = m.1 ∧ m'.2.1 = m.2.1) (h : Reach bs x y) : Reach cs x y := by
  induction h with
  | here => exact .here
  | ahead _ m e ih =>
    obtain ⟨m', i, e1, e2⟩ := sub _ m
    rw [← e2]
    exact .ahead ih i (e1.trans e)
  | back _ m e ih =>
    obtain ⟨m', i, e1, e2⟩ := sub _ m
    rw [← e1]
    exact .back ih i (e2.trans e)
abbrev MachOk (most : Int) (m : Mach) : Prop := 1 ≤ m.2.1 ∧ m.2.1 ≤ 10 ∧ m.2.2.length ≤ 2 ∧ ∀ x ∈ m.2.2, PurseOk most x
abbrev BeltOk (ns : List Str) (m : Belt) : Prop := m.1 ≠ m.2.1 ∧ m.1 ∈ ns ∧ m.2.1 ∈ ns ∧ 1 ≤ m.2.2.1 ∧ m.2.2.1 ≤ 5 ∧ 0 ≤ m.2.2.2 ∧ m.2.2.2 ≤ m.2.2.1
structure HOk (most : Int) (many : Nat) (h : Hall) : Prop where
  asc : (namesH h).Pairwise fun x y => ahead x y = true
  ms : ∀ m ∈ h.ms, MachOk most m
  names : ∀ m ∈ h.ms, m.1 = h.fl ∨ m.1 ∈ eight
  fl : h.fl = "fill" ∨ h.fl = "m"
  pace : ∃ p : Int, (h.fl, p, []) ∈ h.ms ∧ 2 ≤ p ∧ p ≤ 9
  bs : ∀ m ∈ h.bs, BeltOk (namesH h) m
  joined : ∀ m ∈ h.ms, Reach h.bs h.fl m.1
  few : h.ms.length ≤ many + 1
  fewB : h.bs.length ≤ many + 2
theorem HOk.nodup {most : Int} {many : Nat} {h : Hall} (ok : HOk most many h) : (namesH h).Nodup := by
  refine List.Pairwise.imp (fun {a b} q => ?_) ok.asc
  intro e
  subst e
  rw [ahead_irrefl] at q
  cases q
theorem trio_mach (m : Mach) : trioX (machD m) = true := rfl
theorem trio_machs (ms : List Mach) : (ms.map machD).all trioX = true := by
  rw [List.all_map]
  exact List.all_eq_true.mpr fun m _ => rfl
theorem names_mach (ms : List Mach) : (ms.map machD).map nameX = ms.map (·.1) := by
  rw [List.map_map]
  rfl
theorem ahead_total {x y : Str} (h : ahead y x = false) (ne : x ≠ y) : ahead x y = true := by
  unfold ahead at h ⊢
  have n : ¬ y.cps.toList < x.cps.toList := of_decide_eq_false h
  refine decide_eq_true ?_
  rcases Std.lt_trichotomy x.cps.toList y.cps.toList with q | q | q
  · exact q
  · exact absurd (by
      have : x.cps = y.cps := by simpa using q
      cases x
      cases y
      exact congrArg _ this) ne
  · exact absurd q n
/-- sorted machines are ascending -/
theorem sorted_asc {ms : List Mach} (nod : (ms.map (·.1)).Nodup) (srt : SrtO.Srtd (fun x y => ahead (nameX x) (nameX y)) (ms.map machD)) : (ms.map (·.1)).Pairwise fun x y => ahead x y = true := by
  have h1 : (ms.map machD).Pairwise fun x y => ahead (nameX y) (nameX x) = false := srt
  rw [List.pairwise_map] at h1 ⊢
  rw [List.Nodup, List.pairwise_map] at nod
  exact (h1.and nod).imp fun {a b} q => ahead_total q.1 q.2
/-! _law_web -/
abbrev N__law_web : List Str := ["bag", "machines", "most", "names", "filler", "pace", "found", "belts", "joined", "name", "time", "first", "room", "other", "turn", "start", "end"]
def ws__law_web : DS := (dSeq (dSetD 3 (dCut (dOwn 2 V__law_mixed (dCons (dVar 0) (dCons (dLst (dCons (dC (.str "cap")) (dCons (dC (.str "box")) (dCons (dC (.str "wash")) (dCons (dC (.str "sort")) (dCons (dC (.str "lab")) (dCons (dC (.str "a")) (dCons (dC (.str "tray")) (dCons (dC (.str "z")) dNil))))))))) dNil))) dNo (dSome (dVar 1))))
  (dSeq (dPar (parDD 4 5) (dCons (dOwn 2 V__law_some (dCons (dVar 0) (dCons (dLst (dCons (dC (.str "fill")) (dCons (dC (.str "m")) (dCons (dC (.str "fill")) dNil)))) dNil))) (dCons (dOp wAdd (dC (.int 2)) (dOwn 2 V__law_take (dCons (dVar 0) (dCons (dC (.int 6)) dNil)))) dNil)))
  (dSeq (dPar (parOOO 6 7 8) (dCons (dLst (dCons (dTup (dCons (dVar 4) (dCons (dVar 5) (dCons (dTup dNil) dNil)))) dNil)) (dCons (dLst dNil) (dCons (dLst (dCons (dVar 4) dNil)) dNil))))
  (dSeq (dFor (dIter (dVar 3)) (fun r ρ P => asgD 9 r ρ P)
  (dSeq (dSetD 10 (dOp wAdd (dC (.int 1)) (dOwn 2 V__law_take (dCons (dVar 0) (dCons (dOp wAdd (dVar 5) (dCall wInt (dCons (dOp wEq (dOwn 2 V__law_take (dCons (dVar 0) (dCons (dC (.int 6)) dNil))) (dC (.int 0))) dNil))) dNil)))))
  (dSeq (dApp 6 (dTup (dCons (dVar 9) (dCons (dVar 10) (dCons (dOwn 2 V__law_purses (dCons (dVar 0) (dCons (dVar 2) dNil))) dNil)))))
  (dSeq (dPar (parDD 12 13) (dCons (dOp wAdd (dC (.int 1)) (dOwn 2 V__law_take (dCons (dVar 0) (dCons (dC (.int 4)) dNil)))) (dCons (dOwn 2 V__law_some (dCons (dVar 0) (dCons (dVar 8) dNil))) dNil)))
  (dSeq (dSetD 11 (dOwn 2 V__law_first (dCons (dVar 0) (dCons (dVar 12) dNil))))
  (dSeq (dApp 7 (dIfE (dTest (dOp wGt (dOwn 2 V__law_take (dCons (dVar 0) (dCons (dC (.int 3)) dNil))) (dC (.int 0)))) (dTup (dCons (dVar 9) (dCons (dVar 13) (dCons (dVar 12) (dCons (dVar 11) dNil))))) (dTup (dCons (dVar 13) (dCons (dVar 9) (dCons (dVar 12) (dCons (dVar 11) dNil)))))))
  (dApp 8 (dVar 9))))))))
  (dSeq (dFor (dRng1 (dCons (dIfE (dTest (dOp wGt (dVar 1) (dC (.int 0)))) (dOwn 2 V__law_some (dCons (dVar 0) (dCons (dLst (dCons (dC (.int 0)) (dCons (dC (.int 0)) (dCons (dC (.int 1)) (dCons (dC (.int 2)) dNil))))) dNil))) (dC (.int 0))) dNil)) (fun r ρ P => asgD 14 r ρ P)
  (dSeq (dAsg (dCut (dOwn 2 V__law_mixed (dCons (dVar 0) (dCons (dVar 8) dNil))) dNo (dSome (dC (.int 2)))) (wgTup 2 (wgCons (fun r ρ P => asgD 15 r ρ P) (wgCons (fun r ρ P => asgD 16 r ρ P) wgNil))))
  (dSeq (dSetD 12 (dOp wAdd (dC (.int 1)) (dOwn 2 V__law_take (dCons (dVar 0) (dCons (dC (.int 4)) dNil)))))
  (dApp 7 (dTup (dCons (dVar 15) (dCons (dVar 16) (dCons (dVar 12) (dCons (dOwn 2 V__law_first (dCons (dVar 0) (dCons (dVar 12) dNil))) dNil)))))))))
  (dRet (dTup (dCons (dCall wTuple (dCons (dCall wSortN (dCons (dVar 6) dNil)) dNil)) (dCons (dCall wTuple (dCons (dOwn 2 V__law_mixed (dCons (dVar 0) (dCons (dVar 7) dNil))) dNil)) (dCons (dVar 4) dNil))))))))))
abbrev W__law_web : WF := runD N__law_web ws__law_web
def V__law_web : WF := fun as P => ∃ (many : Nat) (most : Int), as = [.bag, .dat (.int (many : Nat)), .dat (.int most)] ∧ many ≤ 8 ∧ 0 < most ∧ most < 1000000 ∧ ∀ h : Hall, HOk most many h → P (.d (hallD h) .gd)
theorem lt_map {α : Type} {f : α → PyData} {l : List α} {n : Nat} (h : l.length < n) : (l.map f).length < n := by rw [List.length_map]; exact h
/-- what stands while machines are drawn -/
structure Grow (most : Int) (fl : Str) (pace : Int) (done : List Str) (ms : List Mach) (bs : List Belt) : Prop where
  names : ms.map (·.1) = fl :: done
  first : (fl, pace, []) ∈ ms
  mok : ∀ m ∈ ms, MachOk most m
  bok : ∀ m ∈ bs, BeltOk (fl :: done) m
  joined : ∀ x ∈ fl :: done, Reach bs fl x
theorem BeltOk.more {ns ns' : List Str} {m : Belt} (sub : ∀ x ∈ ns, x ∈ ns') (h : BeltOk ns m) : BeltOk ns' m := ⟨h.1, sub _ h.2.1, sub _ h.2.2.1, h.2.2.2⟩
theorem Grow.mach {most : Int} {fl x : Str} {pace time : Int} {done : List Str} {ms : List Mach} {bs : List Belt} {l : List Purse} {m : Belt} (g : Grow most fl pace done ms bs) (ok : MachOk most (x, time, l)) (fresh : x ∉ fl :: done)
    (b : ∃ y ∈ fl :: done, (m.1 = x ∧ m.2.1 = y) ∨ (m.1 = y ∧ m.2.1 = x)) (room : 1 ≤ m.2.2.1 ∧ m.2.2.1 ≤ 5 ∧ 0 ≤ m.2.2.2 ∧ m.2.2.2 ≤ m.2.2.1) : Grow most fl pace (done ++ [x]) (ms ++ [(x, time, l)]) (bs ++ [m]) := by
  have sub : ∀ z ∈ fl :: done, z ∈ fl :: (done ++ [x]) := fun z mz => by
    rcases List.mem_cons.mp mz with e | e
    · exact e ▸ .head _
    · exact .tail _ (List.mem_append_left _ e)
  have mx : x ∈ fl :: (done ++ [x]) := .tail _ (List.mem_append_right _ (List.mem_singleton_self _))
  obtain ⟨y, my, e⟩ := b
  have ne : x ≠ y := fun e => fresh (e ▸ my)
  refine ⟨by rw [List.map_append, g.names]; rfl, List.mem_append_left _ g.first, fun z mz => ?_, fun z mz => ?_, fun z mz => ?_⟩
  · rcases List.mem_append.mp mz with q | q
    · exact g.mok z q
    · rw [List.mem_singleton.mp q]; exact ok
  · rcases List.mem_append.mp mz with q | q
    · exact (g.bok z q).more sub
    · rw [List.mem_singleton.mp q]
      rcases e with ⟨e1, e2⟩ | ⟨e1, e2⟩
      · exact ⟨by rw [e1, e2]; exact ne, by rw [e1]; exact mx, by rw [e2]; exact sub _ my, room⟩
      · exact ⟨by rw [e1, e2]; exact ne.symm, by rw [e1]; exact sub _ my, by rw [e2]; exact mx, room⟩
  · have old : ∀ z ∈ fl :: done, Reach (bs ++ [m]) fl z := fun z mz => (g.joined z mz).more fun q mq => List.mem_append_left _ mq
    have here : m ∈ bs ++ [m] := List.mem_append_right _ (List.mem_singleton_self _)
    have new : Reach (bs ++ [m]) fl x := by
      rcases e with ⟨e1, e2⟩ | ⟨e1, e2⟩
      · have := Reach.back (old y my) here e2
        rwa [e1] at this
      · have := Reach.ahead (old y my) here e1
        rwa [e2] at this
    rcases List.mem_cons.mp mz with q | q
    · exact q ▸ old fl (.head _)
    · rcases List.mem_append.mp q with q | q
      · exact old z (.tail _ q)
      · rw [List.mem_singleton.mp q]; exact new
theorem Grow.belt {most : Int} {fl : Str} {pace : Int} {done : List Str} {ms : List Mach} {bs : List Belt} {m : Belt} (g : Grow most fl pace done ms bs) (ok : BeltOk (fl :: done) m) : Grow most fl pace done ms (bs ++ [m]) :=
  ⟨g.names, g.first, g.mok, fun z mz => by
    rcases List.mem_append.mp mz with q | q
    · exact g.bok z q
    · rw [List.mem_singleton.mp q]; exact ok, fun z mz => (g.joined z mz).more fun q mq => List.mem_append_left _ mq⟩
/-- the hall that is made of it -/
theorem Grow.hall {most : Int} {many : Nat} {fl : Str} {pace : Int} {done : List Str} {ms ms' : List Mach} {bs bs' : List Belt} (g : Grow most fl pace done ms bs) (nod : (fl :: done).Nodup) (sub : ∀ x ∈ done, x ∈ eight) (hf : fl = "fill" ∨ fl = "m") (hp : 2 ≤ pace ∧ pace ≤ 9)
    (pm : ms'.Perm ms) (srt : SrtO.Srtd (fun x y => ahead (nameX x) (nameX y)) (ms'.map machD)) (pb : bs'.Perm bs) (few : done.length ≤ many) (fewB : bs.length ≤ many + 2) : HOk most many ⟨ms', bs', fl⟩ := by
  have pn : (ms'.map (·.1)).Perm (fl :: done) := by
    have := pm.map (·.1)
    rwa [g.names] at this
  have inN : ∀ x, x ∈ fl :: done → x ∈ namesH ⟨ms', bs', fl⟩ := fun x m => pn.mem_iff.mpr m
  have len : ms.length = done.length + 1 := by
    have := congrArg List.length g.names
    rwa [List.length_map, List.length_cons] at this
  refine ⟨sorted_asc (pn.nodup_iff.mpr nod) srt, fun m mm => g.mok m (pm.mem_iff.mp mm), fun m mm => ?_, hf, ⟨pace, pm.mem_iff.mpr g.first, hp⟩, fun m mm => (g.bok m (pb.mem_iff.mp mm)).more inN, fun m mm => ?_, ?_, ?_⟩
  · have : m.1 ∈ fl :: done := pn.mem_iff.mp (List.mem_map.mpr ⟨m, mm, rfl⟩)
    rcases List.mem_cons.mp this with q | q
    · exact .inl q
    · exact .inr (sub _ q)
  · have : m.1 ∈ fl :: done := pn.mem_iff.mp (List.mem_map.mpr ⟨m, mm, rfl⟩)
    exact (g.joined _ this).more fun q mq => pb.mem_iff.mpr mq
  · show ms'.length ≤ _
    rw [pm.length_eq, len]
    omega
  · show bs'.length ≤ _
    rw [pb.length_eq]
    exact fewB
theorem pure_belts (bs : List Belt) : pures (bs.map beltD) = true := pures_map _ pure_belt bs
theorem pure_strs (l : List Str) : pures (strsD l) = true := pures_map _ (fun _ => rfl) l
/-- the second loop, and what comes back -/
theorem web_two {many j : Nat} {most k : Int} {P : DK} {ns : List Str} {fl : Str} {ms : List Mach} {bs0 : List Belt} (pos : 0 < most) (bd : most < 1000000) (p : ∀ h : Hall, HOk most many h → P (.d (hallD h) .gd)) (nodA : (fl :: ns).Nodup) (subN : ∀ x ∈ ns, x ∈ eight) (hf : fl = "fill" ∨ fl = "m") (k0 : 0 ≤ k) (k1 : k < 6)
    (lenN : ns.length = many) (g0 : Grow most fl (2 + k) ns ms bs0) (lm : ms.length = ns.length + 1) (j2 : j ≤ 2) (few : bs0.length + j ≤ many + 2 ∧ (0 < j → 0 < many)) (few8 : many ≤ 8) (s9 s10 s11 s12 s13 s14 s15 s16 : Sl) :
    forL (fun r ρ P => asgD 14 r ρ P) (dSeq (dAsg (dCut (dOwn 2 V__law_mixed (dCons (dVar 0) (dCons (dVar 8) dNil))) dNo (dSome (dC (.int 2)))) (wgTup 2 (wgCons (fun r ρ P => asgD 15 r ρ P) (wgCons (fun r ρ P => asgD 16 r ρ P) wgNil))))
      (dSeq (dSetD 12 (dOp wAdd (dC (.int 1)) (dOwn 2 V__law_take (dCons (dVar 0) (dCons (dC (.int 4)) dNil))))) (dApp 7 (dTup (dCons (dVar 15) (dCons (dVar 16) (dCons (dVar 12) (dCons (dOwn 2 V__law_first (dCons (dVar 0) (dCons (dVar 12) dNil))) dNil)))))))) (rngD 0 ((j : Nat) : Int).toNat)
      { nx := dRet (dTup (dCons (dCall wTuple (dCons (dCall wSortN (dCons (dVar 6) dNil)) dNil)) (dCons (dCall wTuple (dCons (dOwn 2 V__law_mixed (dCons (dVar 0) (dCons (dVar 7) dNil))) dNil)) (dCons (dVar 4) dNil)))) { nx := fun _ => P (atom .none), rt := P }, rt := P }
      [.bag, .dat (.int (many : Nat)), .dat (.int most), .dat (.list (strsD ns)), .dat (.str fl), .dat (.int (2 + k)), .own (.list (ms.map machD)), .own (.list (bs0.map beltD)), .own (.list (strsD (fl :: ns))), s9, s10, s11, s12, s13, s14, s15, s16] := by
  refine for_gen (fun i : Nat => PyData.int (0 + (i : Nat))) (fun done ρ => ∃ bs s9 s10 s11 s12 s13 s14 s15 s16, ρ = [.bag, .dat (.int (many : Nat)), .dat (.int most), .dat (.list (strsD ns)), .dat (.str fl), .dat (.int (2 + k)), .own (.list (ms.map machD)), .own (.list (bs.map beltD)), .own (.list (strsD (fl :: ns))), s9, s10, s11, s12, s13, s14, s15, s16] ∧ Grow most fl (2 + k) ns ms bs ∧ bs.length = bs0.length + done.length) _ _
    ⟨bs0, _, _, _, _, _, _, _, _, rfl, g0, rfl⟩ ?_ ?_
  · rintro done i rest _ C e ⟨bs, s9, s10, s11, s12, s13, s14, s15, s16, rfl, g, lb⟩ next
    have ld : j = done.length + (rest.length + 1) := by
      have := congrArg List.length e
      rw [List.length_range, List.length_append, List.length_cons] at this
      omega
    have mp := few.2 (by omega)
    refine ⟨rfl, rfl, _, rfl, lt_map (by rw [List.length_cons]; omega), fun es pe => ?_⟩
    obtain ⟨js, rfl, pj⟩ := perm_map (show es.Perm ((fl :: ns).map PyData.str) from pe)
    have lj : js.length = ns.length + 1 := by rw [pj.length_eq, List.length_cons]
    obtain ⟨a, b, js', e2⟩ : ∃ a b js', js = a :: b :: js' := by
      match js, lj with
      | a :: b :: r, _ => exact ⟨a, b, r, rfl⟩
      | [a], lj => exact absurd (show 1 = ns.length + 1 from lj) (by omega)
      | [], lj => exact absurd (show 0 = ns.length + 1 from lj) (by omega)
    subst e2
    · have e0 : cutA (a :: b :: js') none (some (2 : Int)) = [a, b] := cut_to (a :: b :: js') 2
      have e1 : Pd.cutD ((a :: b :: js').map PyData.str) none (some (2 : Int)) = [.str a, .str b] := by
        rw [cutD_map, e0]
        rfl
      have nj := pj.nodup_iff.mpr nodA
      have ma : a ∈ fl :: ns := pj.mem_iff.mp (.head _)
      have mb : b ∈ fl :: ns := pj.mem_iff.mp (.tail _ (.head _))
      have ab : a ≠ b := fun z => (List.nodup_cons.mp nj).1 (by rw [z]; exact .head _)
      have pu : pures ((a :: b :: js').map PyData.str) = true := pure_strs _
      show wgTup 2 _ (.d (.list (Pd.cutD ((a :: b :: js').map PyData.str) none (some (2 : Int)))) _) _ _
      rw [e1, pu]
      refine ⟨rfl, rfl, rfl, rfl, rfl, rfl, _, rfl, by decide, by decide, fun r r0 r1 => ⟨rfl, rfl, _, rfl, by show (0 : Int) < 1 + r; omega, by show (1 + r : Int) < 1000000; omega, fun f f0 f1 => ⟨leb rfl, rfl, lt_map (by omega), ?_⟩⟩⟩
      refine next _ ⟨bs ++ [(a, b, 1 + r, f)], s9, s10, s11, .dat (.int (1 + r)), s13, .dat (.int (0 + (i : Nat))), .dat (.str a), .dat (.str b), ?_, g.belt ⟨ab, ma, mb, by show 1 ≤ 1 + r; omega, by show 1 + r ≤ 5; omega, f0, f1⟩, by rw [List.length_append, List.length_append, lb]; rfl⟩
      rw [List.map_append]
      rfl
  · rintro _ ⟨bs, s9, s10, s11, s12, s13, s14, s15, s16, rfl, g, lb⟩
    rw [List.length_range] at lb
    refine ⟨trio_machs ms, by rw [names_mach, g.names]; exact nodA, fun es pe srt => ?_⟩
    obtain ⟨ms', rfl, pm⟩ := perm_map pe
    refine ⟨rfl, _, rfl, lt_map (by omega), fun fs pf => ?_⟩
    obtain ⟨bs', rfl, pb⟩ := perm_map pf
    have pu := pure_belts bs'
    have fin := p ⟨ms', bs', fl⟩ (g.hall nodA subN hf ⟨by omega, by omega⟩ pm srt pb (by omega) (by omega))
    show wTuple [.d (.list (bs'.map beltD)) (flIf (pures (bs'.map beltD)) .fr)] _
    rw [pu]
    exact ⟨leb rfl, fin⟩
theorem w__law_web {as : List Sl} {P : DK} (hv : V__law_web as P) : W__law_web as P := by
  obtain ⟨many, most, rfl, few8, pos, bd, p⟩ := hv
  refine ⟨leb rfl, rfl, _, rfl, by decide, fun es pe => ?_⟩
  obtain ⟨nm, rfl, pn⟩ := perm_map (show es.Perm (eight.map PyData.str) from pe)
  refine ⟨rfl, ?_⟩
  have e1 : Pd.cutD (nm.map PyData.str) none (some (many : Int)) = strsD (nm.take many) := by rw [cutD_map, cut_to]; rfl
  rw [e1]
  have subN : ∀ x ∈ nm.take many, x ∈ eight := fun x m => pn.mem_iff.mp (List.mem_of_mem_take m)
  have nodN : (nm.take many).Nodup := (pn.nodup_iff.mpr (by decide)).sublist (List.take_sublist _ _)
  have lenN : (nm.take many).length = many := by
    have : nm.length = 8 := pn.length_eq
    rw [List.length_take]
    omega
  generalize nm.take many = ns at subN nodN lenN
  refine ⟨leb rfl, rfl, _, rfl, by decide, by decide, fun x mx => ⟨rfl, _, rfl, by decide, by decide, fun k k0 k1 => ⟨rfl, rfl, ?_⟩⟩⟩
  obtain ⟨fl, rfl, hf⟩ : ∃ fl : Str, x = .str fl ∧ (fl = "fill" ∨ fl = "m") := by
    simp only [List.mem_cons, List.not_mem_nil, or_false] at mx
    rcases mx with e | e | e
    · exact ⟨_, e, .inl rfl⟩
    · exact ⟨_, e, .inr rfl⟩
    · exact ⟨_, e, .inl rfl⟩
  refine ⟨leb rfl, leb rfl, leb rfl, leb rfl, leb rfl, rfl, rfl, rfl, rfl, ?_⟩
  have nofl : ∀ x ∈ eight, x ≠ fl := by
    rcases hf with e | e
    · subst e; decide
    · subst e; decide
  refine for_gen PyData.str (fun done ρ => ∃ ms bs s9 s10 s11 s12 s13 s14 s15 s16, ρ = [.bag, .dat (.int (many : Nat)), .dat (.int most), .dat (.list (strsD ns)), .dat (.str fl), .dat (.int (2 + k)), .own (.list (ms.map machD)), .own (.list (bs.map beltD)), .own (.list (strsD (fl :: done))), s9, s10, s11, s12, s13, s14, s15, s16] ∧ Grow most fl (2 + k) done ms bs ∧ bs.length = done.length) ns _
    ⟨[(fl, 2 + k, [])], [], _, _, _, _, _, _, _, _, rfl, ⟨rfl, .head _, fun m mm => ?_, fun m mm => (nomatch mm), fun x mx => ?_⟩, rfl⟩ ?_ ?_
  · rw [List.mem_singleton.mp mm]
    exact ⟨by show 1 ≤ 2 + k; omega, by show 2 + k ≤ 10; omega, Nat.zero_le _, fun x mx => (nomatch mx)⟩
  · rw [List.mem_singleton.mp mx]
    exact .here
  · rintro done x rest _ C e ⟨ms, bs, s9, s10, s11, s12, s13, s14, s15, s16, rfl, g, lb⟩ next
    have ld : ns.length = done.length + (rest.length + 1) := by rw [e, List.length_append, List.length_cons]
    have mx : x ∈ ns := by rw [e]; exact List.mem_append_right _ (.head _)
    have fresh : x ∉ fl :: done := fun m => by
      rcases List.mem_cons.mp m with q | q
      · exact nofl x (subN x mx) q
      · rw [e] at nodN
        exact (List.nodup_append.mp nodN).2.2 x q x (.head _) rfl
    have lm : ms.length = done.length + 1 := by
      have := congrArg List.length g.names
      rwa [List.length_map, List.length_cons] at this
    refine ⟨rfl, rfl, _, rfl, by decide, by decide, fun b b0 b1 => ⟨rfl, _, rfl, ?_, ?_, fun t t0 t1 => ⟨rfl, rfl, _, rfl, pos, bd, fun l ll lo => ⟨leb rfl, rfl, lt_map (by omega), ?_⟩⟩⟩⟩
    · show (0 : Int) < 2 + k + (if decide (b = 0) = true then 1 else 0)
      split <;> omega
    · show (2 + k + (if decide (b = 0) = true then 1 else 0) : Int) < 1073741824
      split <;> omega
    have t8 : 1 + t ≤ 10 := by
      have : t < 2 + k + (if decide (b = 0) = true then 1 else 0) := t1
      split at this <;> omega
    refine ⟨rfl, _, rfl, by decide, by decide, fun r r0 r1 => ⟨rfl, _, rfl, Nat.succ_pos _, lt_map (by rw [List.length_cons]; omega), fun y my => ?_⟩⟩
    obtain ⟨o, mo, rfl⟩ := List.mem_map.mp my
    refine ⟨rfl, rfl, rfl, _, rfl, by show (0 : Int) < 1 + r; omega, by show (1 + r : Int) < 1000000; omega, fun f f0 f1 => ⟨rfl, rfl, _, rfl, by decide, by decide, fun c c0 c1 => ?_⟩⟩
    have okm : MachOk most (x, 1 + t, l) := ⟨by show 1 ≤ 1 + t; omega, t8, ll, lo⟩
    have fin : ∀ (m : Belt), (∃ y ∈ fl :: done, (m.1 = x ∧ m.2.1 = y) ∨ (m.1 = y ∧ m.2.1 = x)) → m.2.2 = (1 + r, f) → ∀ (s10 s11 s12 s13 s14 s15 s16 : Sl), C [.bag, .dat (.int (many : Nat)), .dat (.int most), .dat (.list (strsD ns)), .dat (.str fl), .dat (.int (2 + k)), .own (.list (ms.map machD ++ [machD (x, 1 + t, l)])), .own (.list (bs.map beltD ++ [beltD m])), .own (.list (strsD (fl :: done) ++ [.str x])), .dat (.str x), s10, s11, s12, s13, s14, s15, s16] := fun m hm hr s10 s11 s12 s13 s14 s15 s16 => by
      refine next _ ⟨ms ++ [(x, 1 + t, l)], bs ++ [m], .dat (.str x), s10, s11, s12, s13, s14, s15, s16, ?_, g.mach okm fresh hm ⟨by rw [hr]; show 1 ≤ 1 + r; omega, by rw [hr]; show 1 + r ≤ 5; omega, by rw [hr]; exact f0, by rw [hr]; exact f1⟩, by rw [List.length_append, List.length_append, lb]; rfl⟩
      have : strsD (fl :: (done ++ [x])) = strsD (fl :: done) ++ [.str x] := by unfold strsD; rw [← List.cons_append, List.map_append]; rfl
      rw [List.map_append, List.map_append, this]
      rfl
    refine iteD (fun hc => ?_) (fun hc => ?_)
    · exact ⟨leb rfl, rfl, lt_map (by omega), rfl, lt_map (by rw [List.length_cons]; omega), fin (x, o, 1 + r, f) ⟨o, mo, .inl ⟨rfl, rfl⟩⟩ rfl _ _ _ _ _ _ _⟩
    · exact ⟨leb rfl, rfl, lt_map (by omega), rfl, lt_map (by rw [List.length_cons]; omega), fin (o, x, 1 + r, f) ⟨o, mo, .inr ⟨rfl, rfl⟩⟩ rfl _ _ _ _ _ _ _⟩
  · rintro _ ⟨ms, bs0, s9, s10, s11, s12, s13, s14, s15, s16, rfl, g0, lb0⟩
    have nodA : (fl :: ns).Nodup := List.nodup_cons.mpr ⟨fun m => nofl fl (subN fl m) rfl, nodN⟩
    have lm : ms.length = ns.length + 1 := by
      have := congrArg List.length g0.names
      rwa [List.length_map, List.length_cons] at this
    refine iteD (fun hm => ?_) (fun hm => ?_)
    · refine ⟨leb rfl, rfl, _, rfl, by decide, by decide, fun x mx => ?_⟩
      obtain ⟨j, rfl, j2⟩ : ∃ j : Nat, x = .int (j : Nat) ∧ j ≤ 2 := by
        simp only [List.mem_cons, List.not_mem_nil, or_false] at mx
        rcases mx with e | e | e | e
        · exact ⟨0, e, by decide⟩
        · exact ⟨0, e, by decide⟩
        · exact ⟨1, e, by decide⟩
        · exact ⟨2, e, by decide⟩
      refine ⟨by omega, by omega, rfl, ?_⟩
      exact web_two pos bd p nodA subN hf k0 k1 lenN g0 lm (by omega) (by omega) few8 s9 s10 s11 s12 s13 s14 s15 s16
    · refine ⟨by decide, by decide, rfl, ?_⟩
      exact web_two (j := 0) pos bd p nodA subN hf k0 k1 lenN g0 lm (by omega) (by omega) few8 s9 s10 s11 s12 s13 s14 s15 s16
end Cm

namespace Cm
open PySem PySem.Spec PyProof.Rows L2 Vd Pd
/-! C4: drawn lines and trees, arcs by the law, live halls -/
/-! _law_tree -/
abbrev N__law_tree : List Str := ["bag", "machines", "most", "names", "pace", "found", "belts", "joined", "name", "room"]
def ws__law_tree : DS := (dSeq (dPar (parDD 3 4) (dCons (dCut (dOwn 2 V__law_mixed (dCons (dVar 0) (dCons (dLst (dCons (dC (.str "cap")) (dCons (dC (.str "box")) (dCons (dC (.str "wash")) (dCons (dC (.str "sort")) (dCons (dC (.str "lab")) (dCons (dC (.str "a")) (dCons (dC (.str "tray")) dNil)))))))) dNil))) dNo (dSome (dVar 1))) (dCons (dOp wAdd (dC (.int 3)) (dOwn 2 V__law_take (dCons (dVar 0) (dCons (dC (.int 7)) dNil)))) dNil)))
  (dSeq (dPar (parOOO 5 6 7) (dCons (dLst (dCons (dTup (dCons (dC (.str "fill")) (dCons (dVar 4) (dCons (dTup dNil) dNil)))) dNil)) (dCons (dLst dNil) (dCons (dLst (dCons (dC (.str "fill")) dNil)) dNil))))
  (dSeq (dFor (dIter (dVar 3)) (fun r ρ P => asgD 8 r ρ P)
  (dSeq (dSetD 9 (dOp wAdd (dC (.int 1)) (dOwn 2 V__law_take (dCons (dVar 0) (dCons (dC (.int 5)) dNil)))))
  (dSeq (dApp 5 (dTup (dCons (dVar 8) (dCons (dOp wAdd (dC (.int 1)) (dOwn 2 V__law_take (dCons (dVar 0) (dCons (dVar 4) dNil)))) (dCons (dOwn 2 V__law_purses (dCons (dVar 0) (dCons (dVar 2) dNil))) dNil)))))
  (dSeq (dApp 6 (dTup (dCons (dVar 8) (dCons (dOwn 2 V__law_some (dCons (dVar 0) (dCons (dVar 7) dNil))) (dCons (dVar 9) (dCons (dVar 9) dNil))))))
  (dApp 7 (dVar 8))))))
  (dRet (dTup (dCons (dCall wTuple (dCons (dCall wSortN (dCons (dVar 5) dNil)) dNil)) (dCons (dCall wTuple (dCons (dOwn 2 V__law_mixed (dCons (dVar 0) (dCons (dVar 6) dNil))) dNil)) (dCons (dC (.str "fill")) dNil))))))))
abbrev W__law_tree : WF := runD N__law_tree ws__law_tree
/-! _law_line -/
abbrev N__law_line : List Str := ["bag", "machines", "most", "names", "pace", "found", "name", "belts", "start", "end", "room"]
def ws__law_line : DS := (dSeq (dSetD 3 (dOp wAdd (dCut (dOwn 2 V__law_mixed (dCons (dVar 0) (dCons (dLst (dCons (dC (.str "cap")) (dCons (dC (.str "box")) (dCons (dC (.str "wash")) (dCons (dC (.str "sort")) (dCons (dC (.str "lab")) (dCons (dC (.str "a")) (dCons (dC (.str "tray")) dNil)))))))) dNil))) dNo (dSome (dVar 1))) (dLst (dCons (dC (.str "fill")) dNil))))
  (dSeq (dSetD 4 (dOp wAdd (dC (.int 3)) (dOwn 2 V__law_take (dCons (dVar 0) (dCons (dC (.int 7)) dNil)))))
  (dSeq (dSetD 5 (dOp wAdd (dLc (dIter (dCut (dVar 3) dNo (dSome (dNeg (dC (.int 1)))))) (fun r ρ P => asgD 6 r ρ P) dYes (dTup (dCons (dVar 6) (dCons (dOp wAdd (dC (.int 1)) (dOwn 2 V__law_take (dCons (dVar 0) (dCons (dVar 4) dNil)))) (dCons (dOwn 2 V__law_purses (dCons (dVar 0) (dCons (dVar 2) dNil))) dNil)))) [6]) (dLst (dCons (dTup (dCons (dC (.str "fill")) (dCons (dVar 4) (dCons (dTup dNil) dNil)))) dNil))))
  (dSeq (dSetO 7 (dLst dNil))
  (dSeq (dFor (dZip (dCons (dVar 3) (dCons (dCut (dVar 3) (dSome (dC (.int 1))) dNo) dNil))) (wgTup 2 (wgCons (fun r ρ P => asgD 8 r ρ P) (wgCons (fun r ρ P => asgD 9 r ρ P) wgNil)))
  (dSeq (dSetD 10 (dOp wAdd (dC (.int 1)) (dOwn 2 V__law_take (dCons (dVar 0) (dCons (dC (.int 5)) dNil)))))
  (dApp 7 (dTup (dCons (dVar 8) (dCons (dVar 9) (dCons (dVar 10) (dCons (dVar 10) dNil))))))))
  (dRet (dTup (dCons (dCall wTuple (dCons (dCall wSortN (dCons (dVar 5) dNil)) dNil)) (dCons (dCall wTuple (dCons (dOwn 2 V__law_mixed (dCons (dVar 0) (dCons (dVar 7) dNil))) dNil)) (dCons (dC (.str "fill")) dNil))))))))))
abbrev W__law_line : WF := runD N__law_line ws__law_line
def V__law_tree : WF := fun as P => ∃ (many : Nat) (most : Int), as = [.bag, .dat (.int (many : Nat)), .dat (.int most)] ∧ many ≤ 7 ∧ 0 < most ∧ most < 1000000 ∧ ∀ h : Hall, HOk most many h → h.fl = "fill" → (∀ m ∈ h.bs, m.2.2.2 = m.2.2.1) → P (.d (hallD h) .gd)
theorem fresh_of {fl x : Str} {ns done rest : List Str} (e : ns = done ++ x :: rest) (nod : ns.Nodup) (no : ∀ y ∈ ns, y ≠ fl) : x ∉ fl :: done := fun m => by
  subst e
  rcases List.mem_cons.mp m with q | q
  · exact no x (List.mem_append_right _ (.head _)) q
  · exact (List.nodup_append.mp nod).2.2 x q x (.head _) rfl
theorem w__law_tree {as : List Sl} {P : DK} (hv : V__law_tree as P) : W__law_tree as P := by
  obtain ⟨many, most, rfl, few7, pos, bd, p⟩ := hv
  refine ⟨leb rfl, rfl, _, rfl, by decide, fun es pe => ?_⟩
  obtain ⟨nm, rfl, pn⟩ := perm_map (show es.Perm (seven.map PyData.str) from pe)
  refine ⟨rfl, _, rfl, by decide, by decide, fun k k0 k1 => ⟨rfl, rfl, ?_⟩⟩
  have e1 : Pd.cutD (nm.map PyData.str) none (some (many : Int)) = strsD (nm.take many) := by rw [cutD_map, cut_to]; rfl
  rw [e1]
  have subN : ∀ x ∈ nm.take many, x ∈ eight := fun x m => by
    have : x ∈ seven := pn.mem_iff.mp (List.mem_of_mem_take m)
    revert this
    exact (by decide : ∀ x ∈ seven, x ∈ eight) x
  have noF : ∀ x ∈ nm.take many, x ≠ "fill" := fun x m => (by decide : ∀ x ∈ eight, x ≠ "fill") x (subN x m)
  have nodN : (nm.take many).Nodup := (pn.nodup_iff.mpr (by decide)).sublist (List.take_sublist _ _)
  have lenN : (nm.take many).length ≤ many := by rw [List.length_take]; omega
  generalize nm.take many = ns at subN nodN lenN noF
  refine ⟨leb rfl, leb rfl, leb rfl, leb rfl, leb rfl, rfl, rfl, rfl, rfl, ?_⟩
  refine for_gen PyData.str (fun done ρ => ∃ ms bs F B J s8 s9, ρ = [.bag, .dat (.int (many : Nat)), .dat (.int most), .dat (.list (strsD ns)), .dat (.int (3 + k)), .own (.list F), .own (.list B), .own (.list J), s8, s9] ∧ F = ms.map machD ∧ B = bs.map beltD ∧ J = strsD ("fill" :: done) ∧ Grow most "fill" (3 + k) done ms bs ∧ bs.length = done.length ∧ ∀ m ∈ bs, m.2.2.2 = m.2.2.1) ns _
    ⟨[("fill", 3 + k, [])], [], _, _, _, _, _, rfl, rfl, rfl, rfl, ⟨rfl, .head _, fun m mm => ?_, fun m mm => (nomatch mm), fun x mx => ?_⟩, rfl, fun m mm => (nomatch mm)⟩ ?_ ?_
  · rw [List.mem_singleton.mp mm]
    exact ⟨by show 1 ≤ 3 + k; omega, by show 3 + k ≤ 10; omega, Nat.zero_le _, fun x mx => (nomatch mx)⟩
  · rw [List.mem_singleton.mp mx]
    exact .here
  · rintro done x rest _ C e ⟨ms, bs, F, B, J, s8, s9, rfl, rfl, rfl, rfl, g, lb, full⟩ next
    have ld : ns.length = done.length + (rest.length + 1) := by rw [e, List.length_append, List.length_cons]
    have fresh := fresh_of e nodN noF
    have lm : ms.length = done.length + 1 := by
      have := congrArg List.length g.names
      rwa [List.length_map, List.length_cons] at this
    refine ⟨rfl, rfl, _, rfl, by decide, by decide, fun r r0 r1 => ⟨rfl, rfl, _, rfl, by omega, by omega, fun t t0 t1 => ⟨rfl, _, rfl, pos, bd, fun l ll lo => ⟨leb rfl, rfl, lt_map (by omega), ?_⟩⟩⟩⟩
    refine ⟨rfl, _, rfl, Nat.succ_pos _, lt_map (by rw [List.length_cons]; omega), fun y my => ?_⟩
    obtain ⟨o, mo, rfl⟩ := List.mem_map.mp my
    refine ⟨leb rfl, rfl, lt_map (by omega), rfl, lt_map (by rw [List.length_cons]; omega), next _ ⟨ms ++ [(x, 1 + t, l)], bs ++ [(x, o, 1 + r, 1 + r)], _, _, _, _, _, rfl, ?_, ?_, ?_, g.mach ⟨by show 1 ≤ 1 + t; omega, by show 1 + t ≤ 10; omega, ll, lo⟩ fresh ⟨o, mo, .inl ⟨rfl, rfl⟩⟩ ⟨by show 1 ≤ 1 + r; omega, by show 1 + r ≤ 5; omega, by show 0 ≤ 1 + r; omega, Int.le_refl _⟩, ?_, fun m mm => ?_⟩⟩
    · rw [List.map_append]; rfl
    · rw [List.map_append]; rfl
    · unfold strsD; rw [← List.cons_append, List.map_append]; rfl
    · rw [List.length_append, List.length_append, lb]; rfl
    · rcases List.mem_append.mp mm with q | q
      · exact full m q
      · rw [List.mem_singleton.mp q]
  · rintro _ ⟨ms, bs, F, B, J, s8, s9, rfl, rfl, rfl, rfl, g, lb, full⟩
    have nodA : (("fill" : Str) :: ns).Nodup := List.nodup_cons.mpr ⟨fun m => noF _ m rfl, nodN⟩
    refine ⟨trio_machs ms, by rw [names_mach, g.names]; exact nodA, fun es pe srt => ?_⟩
    obtain ⟨ms', rfl, pm⟩ := perm_map pe
    refine ⟨rfl, _, rfl, lt_map (by omega), fun fs pf => ?_⟩
    obtain ⟨bs', rfl, pb⟩ := perm_map pf
    have pu := pure_belts bs'
    have fin := p ⟨ms', bs', "fill"⟩ (g.hall nodA subN (.inl rfl) ⟨by omega, by omega⟩ pm srt pb (by omega) (by omega)) rfl fun m mm => full m (pb.mem_iff.mp mm)
    show wTuple [.d (.list (bs'.map beltD)) (flIf (pures (bs'.map beltD)) .fr)] _
    rw [pu]
    exact ⟨leb rfl, fin⟩
theorem lc_pre {α : Type} {wg : WG} {wt : DT} {we : DE} {ρw : Ro} (f : α → PyData) (all : List α) (J : List α → List PyData → Prop) {k : List PyData → Prop} :
    ∀ (xs done : List α) (acc : List PyData), all = done ++ xs → J done acc → acc.length + xs.length ≤ 1000000 →
    (∀ (done' : List α) (a : α) (rest : List α) (acc' : List PyData) (k' : List PyData → Prop), all = done' ++ a :: rest → J done' acc' → acc'.length < 1000000 → (∀ acc2, acc2.length ≤ acc'.length + 1 → J (done' ++ [a]) acc2 → k' acc2) → wg (.d (f a) .gd) ρw fun ρ2 => wt ρ2 fun b => if b = true then we ρ2 fun r => onD r fun x fl => goodF fl x = true ∧ acc'.length < 1000000 ∧ k' (acc' ++ [x]) else k' acc') →
    (∀ acc2, J all acc2 → k acc2) → lcL wg wt we ρw (xs.map f) acc k
  | [], done, acc, e, j, _, _, h => h acc (by rw [e, List.append_nil]; exact j)
  | a :: xs, done, acc, e, j, few, step, h => by
    rw [List.length_cons] at few
    refine step done a xs acc (fun acc2 => lcL wg wt we ρw (xs.map f) acc2 k) e j (by omega) fun acc2 l2 j2 => ?_
    exact lc_pre f all J xs (done ++ [a]) acc2 (by rw [e]; simp) j2 (by omega) step h
def V__law_line : WF := fun as P => ∃ (many : Nat) (most : Int), as = [.bag, .dat (.int (many : Nat)), .dat (.int most)] ∧ many ≤ 7 ∧ 0 < most ∧ most < 1000000 ∧ ∀ h : Hall, HOk most many h → h.fl = "fill" → (∀ m ∈ h.bs, m.2.2.2 = m.2.2.1) → P (.d (hallD h) .gd)
/-- a chain of names, each joined to the next one -/
theorem line_reach {bs : List Belt} : ∀ (ns : List Str) (x : Str), (∀ (i : Nat) (a b : Str), (ns ++ [x])[i]? = some a → (ns ++ [x])[i + 1]? = some b → ∃ m ∈ bs, m.1 = a ∧ m.2.1 = b) → ∀ y ∈ ns, Reach bs x y := by
  intro ns x h
  -- from behind
  have key : ∀ (k : Nat) (i : Nat) (y : Str), i + k = ns.length → (ns ++ [x])[i]? = some y → Reach bs x y := by
    intro k
    induction k with
    | zero =>
      intro i y e q
      have : i = ns.length := by omega
      subst this
      simp at q
      rw [← q]
      exact .here
    | succ k ih =>
      intro i y e q
      have lt : i + 1 < (ns ++ [x]).length := by rw [List.length_append]; simp; omega
      obtain ⟨m, mm, e1, e2⟩ := h i y _ q (List.getElem?_eq_getElem lt)
      have := ih (i + 1) _ (by omega) (List.getElem?_eq_getElem lt)
      have r := Reach.back this mm e2
      rwa [e1] at r
  intro y my
  obtain ⟨i, e⟩ := List.mem_iff_getElem?.mp my
  have lt := (List.getElem?_eq_some_iff.mp e).1
  exact key (ns.length - i) i y (by omega) (by rw [List.getElem?_append_left lt]; exact e)
theorem zipD_map {α : Type} (f : α → PyData) : ∀ (l r : List α), zipD (l.map f) (r.map f) = (l.zip r).map fun p => .tuple [f p.1, f p.2]
  | [], r => rfl
  | a :: l, [] => rfl
  | a :: l, b :: r => by
    show _ :: zipD (l.map f) (r.map f) = _
    rw [zipD_map f l r]
    rfl
theorem zip_tail {l : List Str} {a b : Str} (h : (a, b) ∈ l.zip (l.drop 1)) : ∃ i : Nat, l[i]? = some a ∧ l[i + 1]? = some b := by
  obtain ⟨i, e⟩ := List.mem_iff_getElem?.mp h
  rw [List.getElem?_zip_eq_some] at e
  refine ⟨i, e.1, ?_⟩
  have := e.2
  rw [List.getElem?_drop] at this
  rwa [Nat.add_comm] at this
theorem tail_zip {l : List Str} {i : Nat} {a b : Str} (e1 : l[i]? = some a) (e2 : l[i + 1]? = some b) : (a, b) ∈ l.zip (l.drop 1) := by
  refine List.mem_iff_getElem?.mpr ⟨i, ?_⟩
  rw [List.getElem?_zip_eq_some]
  exact ⟨e1, by rw [List.getElem?_drop, Nat.add_comm]; exact e2⟩
theorem wIter_fr {ds es : List PyData} {P : List PyData → Bool → Prop} (e : ds = es) (h : P es true) : wIter (.list ds) .fr P := by subst e; exact h
theorem wZip_fr {ds es es' : List PyData} {P : List PyData → Bool → Prop} (e : es = es') (h : P (zipD ds es') true) : wZip [.d (.list ds) .gd, .d (.list es) .fr] P := by subst e; exact ⟨rfl, rfl, h⟩
theorem w__law_line {as : List Sl} {P : DK} (hv : V__law_line as P) : W__law_line as P := by
  obtain ⟨many, most, rfl, few7, pos, bd, p⟩ := hv
  refine ⟨leb rfl, rfl, _, rfl, by decide, fun es pe => ?_⟩
  obtain ⟨nm, rfl, pn⟩ := perm_map (show es.Perm (seven.map PyData.str) from pe)
  have e1 : Pd.cutD (nm.map PyData.str) none (some (many : Int)) = strsD (nm.take many) := by rw [cutD_map, cut_to]; rfl
  have subN : ∀ x ∈ nm.take many, x ∈ eight := fun x m => by
    have : x ∈ seven := pn.mem_iff.mp (List.mem_of_mem_take m)
    revert this
    exact (by decide : ∀ x ∈ seven, x ∈ eight) x
  have noF : ∀ x ∈ nm.take many, x ≠ "fill" := fun x m => (by decide : ∀ x ∈ eight, x ≠ "fill") x (subN x m)
  have nodN : (nm.take many).Nodup := (pn.nodup_iff.mpr (by decide)).sublist (List.take_sublist _ _)
  have lenN : (nm.take many).length ≤ many := by rw [List.length_take]; omega
  refine ⟨leb rfl, .inl rfl, .inl rfl, ?_⟩
  rw [e1]
  generalize nm.take many = ns at subN nodN lenN noF
  have eA : strsD ns ++ [.str "fill"] = strsD (ns ++ [("fill" : Str)]) := by unfold strsD; rw [List.map_append]; rfl
  rw [eA]
  have lA : (strsD ns).length = ns.length := List.length_map ..
  refine ⟨by show (strsD ns).length + 1 ≤ 1000000; rw [lA]; omega, rfl, rfl, _, rfl, by decide, by decide, fun k k0 k1 => ⟨rfl, ?_⟩⟩
  -- the machines
  have eC : Pd.cutD (strsD (ns ++ [("fill" : Str)])) none (some (-1 : Int)) = strsD ns := by
    unfold strsD
    rw [cutD_map]
    congr 1
    unfold cutA
    rw [HT.sIx_none, List.drop_zero, Nat.sub_zero]
    have : HT.sIx (ns ++ [("fill" : Str)]).length (ns ++ [("fill" : Str)]).length (some (-1 : Int)) = ns.length := by
      show (if (-1 : Int) < 0 then ((-1 : Int) + ((ns ++ [("fill" : Str)]).length : Int)).toNat else min (-1 : Int).toNat (ns ++ [("fill" : Str)]).length) = _
      rw [if_pos (by decide), List.length_append]
      simp
      omega
    rw [this]
    simp
  refine ⟨rfl, ?_⟩
  rw [eC]
  refine lc_pre PyData.str ns (fun done acc => ∃ ms : List Mach, acc = ms.map machD ∧ ms.map (·.1) = done ∧ ∀ m ∈ ms, MachOk most m) ns [] [] rfl ⟨[], rfl, rfl, fun m mm => (nomatch mm)⟩ (by simp; omega) ?_ ?_
  · rintro done x rest acc' k' e ⟨ms, rfl, nms, ok⟩ few' next
    refine ⟨rfl, rfl, _, rfl, by omega, by omega, fun t t0 t1 => ⟨rfl, _, rfl, pos, bd, fun l ll lo => ⟨leb rfl, rfl, few', next _ (by simp) ⟨ms ++ [(x, 1 + t, l)], by rw [List.map_append]; rfl, by rw [List.map_append, nms]; rfl, fun m mm => ?_⟩⟩⟩⟩
    rcases List.mem_append.mp mm with q | q
    · exact ok m q
    · rw [List.mem_singleton.mp q]
      exact ⟨by show 1 ≤ 1 + t; omega, by show 1 + t ≤ 10; omega, ll, lo⟩
  · rintro _ ⟨ms, rfl, nmsM, okM⟩
    have lm : ms.length = ns.length := by rw [← nmsM, List.length_map]
    refine ⟨leb rfl, leb rfl, leb rfl, .inl rfl, .inl rfl, ?_⟩
    refine ⟨by show (ms.map machD).length + 1 ≤ 1000000; rw [List.length_map]; omega, rfl, leb rfl, ?_⟩
    have eD : Pd.cutD (strsD (ns ++ [("fill" : Str)])) (some (1 : Int)) none = strsD ((ns ++ [("fill" : Str)]).drop 1) := by
      unfold strsD
      rw [cutD_map]
      congr 1
      exact cut_from _ 1
    refine ⟨rfl, rfl, rfl, ?_⟩
    rw [eD]
    have eZ : zipD (strsD (ns ++ [("fill" : Str)])) (strsD ((ns ++ [("fill" : Str)]).drop 1)) = ((ns ++ [("fill" : Str)]).zip ((ns ++ [("fill" : Str)]).drop 1)).map fun p => .tuple [.str p.1, .str p.2] := zipD_map PyData.str _ _
    rw [eZ]
    refine for_gen (fun p : Str × Str => .tuple [.str p.1, .str p.2]) (fun done ρ => ∃ bs F s6 s8 s9 s10, ρ = [.bag, .dat (.int (many : Nat)), .dat (.int most), .dat (.list (strsD (ns ++ [("fill" : Str)]))), .dat (.int (3 + k)), .dat (.list (ms.map machD ++ [machD ("fill", 3 + k, [])])), s6, .own (.list F), s8, s9, s10] ∧ F = bs.map beltD ∧ bs.map (fun m : Belt => (m.1, m.2.1)) = done ∧ ∀ m ∈ bs, 1 ≤ m.2.2.1 ∧ m.2.2.1 ≤ 5 ∧ m.2.2.2 = m.2.2.1) _ _ ⟨[], _, _, _, _, _, rfl, rfl, rfl, fun m mm => (nomatch mm)⟩ ?_ ?_
    · rintro done ⟨a, b⟩ rest _ C e ⟨bs, F, s6, s8, s9, s10, rfl, rfl, nms, ok⟩ next
      have ld : (ns ++ [("fill" : Str)]).length ≥ done.length + (rest.length + 1) := by
        have := congrArg List.length e
        rw [List.length_append, List.length_cons, List.length_zip] at this
        omega
      rw [List.length_append] at ld
      have lb : bs.length = done.length := by rw [← nms, List.length_map]
      have l1 : ([("fill" : Str)]).length = 1 := rfl
      refine ⟨rfl, rfl, rfl, rfl, rfl, rfl, _, rfl, by decide, by decide, fun r r0 r1 => ⟨rfl, leb rfl, rfl, lt_map (by omega), next _ ⟨bs ++ [(a, b, 1 + r, 1 + r)], _, s6, _, _, _, rfl, ?_, ?_, fun m mm => ?_⟩⟩⟩
      · rw [List.map_append]; rfl
      · rw [List.map_append, nms]; rfl
      · rcases List.mem_append.mp mm with q | q
        · exact ok m q
        · rw [List.mem_singleton.mp q]
          exact ⟨by show 1 ≤ 1 + r; omega, by show 1 + r ≤ 5; omega, rfl⟩
    · rintro _ ⟨bs, F, s6, s8, s9, s10, rfl, rfl, nms, ok⟩
      have eM : ms.map machD ++ [machD ("fill", 3 + k, [])] = (ms ++ [(("fill" : Str), 3 + k, [])]).map machD := by rw [List.map_append]; rfl
      have nA : (ms ++ [(("fill" : Str), 3 + k, [])]).map (fun m : Mach => m.1) = ns ++ [("fill" : Str)] := by rw [List.map_append, nmsM]; rfl
      have nodA : (ns ++ [("fill" : Str)]).Nodup := List.nodup_append.mpr ⟨nodN, by decide, fun x mx y my => by rw [List.mem_singleton.mp my]; exact noF x mx⟩
      rw [eM]
      refine ⟨trio_machs _, by rw [names_mach, nA]; exact nodA, fun es pe srt => ?_⟩
      obtain ⟨ms', rfl, pm⟩ := perm_map pe
      have lb : bs.length = ns.length := by
        have := congrArg List.length nms
        rw [List.length_map, List.length_zip, List.length_drop, List.length_append] at this
        have l1 : ([("fill" : Str)]).length = 1 := rfl
        omega
      refine ⟨rfl, _, rfl, lt_map (by omega), fun fs pf => ?_⟩
      obtain ⟨bs', rfl, pb⟩ := perm_map pf
      have pu := pure_belts bs'
      have pn : (ms'.map (·.1)).Perm (ns ++ [("fill" : Str)]) := by
        have := pm.map (·.1)
        rwa [nA] at this
      have pairOf : ∀ m ∈ bs, ∃ i : Nat, (ns ++ [("fill" : Str)])[i]? = some m.1 ∧ (ns ++ [("fill" : Str)])[i + 1]? = some m.2.1 := fun m mm => zip_tail (by rw [← nms]; exact List.mem_map.mpr ⟨m, mm, rfl⟩)
      have reach := line_reach (bs := bs) ns "fill" fun i a b e1 e2 => by
        have : (a, b) ∈ bs.map fun m : Belt => (m.1, m.2.1) := by rw [nms]; exact tail_zip e1 e2
        obtain ⟨m, mm, q⟩ := List.mem_map.mp this
        exact ⟨m, mm, congrArg Prod.fst q, congrArg Prod.snd q⟩
      have hk : HOk most many ⟨ms', bs', "fill"⟩ := by
        refine ⟨sorted_asc (pn.nodup_iff.mpr nodA) srt, fun m mm => ?_, fun m mm => ?_, .inl rfl, ⟨3 + k, pm.mem_iff.mpr (List.mem_append_right _ (.head _)), by omega, by omega⟩, fun m mm => ?_, fun m mm => ?_, ?_, ?_⟩
        · rcases List.mem_append.mp (pm.mem_iff.mp mm) with q | q
          · exact okM m q
          · rw [List.mem_singleton.mp q]
            exact ⟨by show 1 ≤ 3 + k; omega, by show 3 + k ≤ 10; omega, Nat.zero_le _, fun x mx => (nomatch mx)⟩
        · have : m.1 ∈ ns ++ [("fill" : Str)] := pn.mem_iff.mp (List.mem_map.mpr ⟨m, mm, rfl⟩)
          rcases List.mem_append.mp this with q | q
          · exact .inr (subN _ q)
          · exact .inl (List.mem_singleton.mp q)
        · have mm' := pb.mem_iff.mp mm
          obtain ⟨i, e1, e2⟩ := pairOf m mm'
          obtain ⟨o1, o2, o3⟩ := ok m mm'
          refine ⟨fun q => ?_, pn.mem_iff.mpr (List.mem_iff_getElem?.mpr ⟨i, e1⟩), pn.mem_iff.mpr (List.mem_iff_getElem?.mpr ⟨i + 1, e2⟩), o1, o2, by omega, by omega⟩
          rw [q] at e1
          have lt := (List.getElem?_eq_some_iff.mp e1).1
          have := (List.getElem?_inj lt nodA).mp (e1.trans e2.symm)
          omega
        · have : m.1 ∈ ns ++ [("fill" : Str)] := pn.mem_iff.mp (List.mem_map.mpr ⟨m, mm, rfl⟩)
          rcases List.mem_append.mp this with q | q
          · exact (reach _ q).more fun z mz => pb.mem_iff.mpr mz
          · rw [List.mem_singleton.mp q]; exact .here
        · show ms'.length ≤ _
          rw [pm.length_eq, List.length_append, lm]
          have l1 : ([(("fill" : Str), 3 + k, ([] : List Purse))]).length = 1 := rfl
          omega
        · show bs'.length ≤ _
          rw [pb.length_eq]
          omega
      have fin := p ⟨ms', bs', "fill"⟩ hk rfl fun m mm => (ok m (pb.mem_iff.mp mm)).2.2
      show wTuple [.d (.list (bs'.map beltD)) (flIf (pures (bs'.map beltD)) .fr)] _
      rw [pu]
      exact ⟨leb rfl, fin⟩
end Cm

namespace Cm
open PySem PySem.Spec PyProof.Rows L2 Vd Pd
/-! CJ: things of any form, how great they are -/
mutual
def txt : PyData → Bool
  | .str x => decide (x.length ≤ 1000000) && x.cps.toList.all fun c => decide (c < 0x110000)
  | .tuple xs => txts xs
  | _ => true
def txts : List PyData → Bool
  | [] => true
  | x :: xs => txt x && txts xs
end
mutual
def small : PyData → Bool
  | .int i => decide (i.natAbs < 2 ^ 400)
  | .tuple xs => smalls xs
  | _ => true
def smalls : List PyData → Bool
  | [] => true
  | x :: xs => small x && smalls xs
end
structure Fit (W D : Nat) (d : PyData) : Prop where
  nice : nice d = true
  txt : txt d = true
  small : small d = true
  wgt : wgt d ≤ W
  deep : d.depth ≤ D
theorem Fit.of {W D : Nat} {d : PyData} (h : (Vd.nice d && Cm.txt d && Cm.small d && decide (Vd.wgt d ≤ W) && decide (d.depth ≤ D)) = true) : Fit W D d := by
  simp only [Bool.and_eq_true, decide_eq_true_eq] at h
  exact ⟨h.1.1.1.1, h.1.1.1.2, h.1.1.2, h.1.2, h.2⟩
theorem Fit.more {W D W' D' : Nat} {d : PyData} (h : Fit W D d) (hw : W ≤ W') (hd : D ≤ D') : Fit W' D' d := ⟨h.nice, h.txt, h.small, Nat.le_trans h.wgt hw, Nat.le_trans h.deep hd⟩
theorem Fit.shows {W D : Nat} {d : PyData} (h : Fit W D d) (hw : W ≤ 10000000) (hd : D ≤ 60) : Shows d ∧ d.depth ≤ 60 := ⟨Shows.of h.nice (by have := h.wgt; omega), Nat.le_trans h.deep hd⟩
mutual
def plain : PyData → Bool
  | .int i => decide (i.natAbs ≤ 1000000)
  | .str x => decide (x.length ≤ 20) && x.cps.toList.all fun c => decide (c < 0x110000)
  | .tuple xs => plains xs
  | _ => false
def plains : List PyData → Bool
  | [] => true
  | x :: xs => plain x && plains xs
end
theorem plains_mem : ∀ {ds : List PyData}, plains ds = true → ∀ d ∈ ds, plain d = true
  | [], _, d, no => nomatch no
  | x :: xs, h, d, m => by
    simp only [plains, Bool.and_eq_true] at h
    cases m with
    | head => exact h.1
    | tail _ m => exact plains_mem h.2 d m
theorem plains_of : ∀ {ds : List PyData}, (∀ d ∈ ds, plain d = true) → plains ds = true
  | [], _ => rfl
  | x :: xs, h => by
    show (plain x && plains xs) = true
    rw [h x (.head _), plains_of fun d m => h d (.tail _ m)]
    rfl
theorem txt_nice {x : Str} (h : (x.cps.toList.all fun c => decide (c < 0x110000)) = true) : signsOk x = true := by
  refine List.all_eq_true.mpr fun c m => decide_eq_true ?_
  have := of_decide_eq_true (List.all_eq_true.mp h c m)
  have e : (16 : Nat) ^ 8 = 4294967296 := by decide
  omega
mutual
theorem plain_ok : ∀ d : PyData, plain d = true → Vd.nice d = true ∧ Cm.txt d = true ∧ Cm.small d = true
  | .none, h => by cases h
  | .bool _, h => by cases h
  | .int i, h => by
    have le : i.natAbs ≤ 1000000 := of_decide_eq_true h
    have lt : i.natAbs < 2 ^ 400 := Nat.lt_of_le_of_lt le (by decide)
    refine ⟨?_, rfl, decide_eq_true lt⟩
    exact decide_eq_true (Nat.lt_of_lt_of_le (PySem.Flt.log2_lt_of (by decide) lt) (by decide))
  | .str x, h => by
    simp only [plain, Bool.and_eq_true] at h
    have le : x.length ≤ 20 := of_decide_eq_true h.1
    refine ⟨txt_nice h.2, ?_, rfl⟩
    simp only [txt, Bool.and_eq_true]
    exact ⟨decide_eq_true (by omega), h.2⟩
  | .list _, h => by cases h
  | .tuple xs, h => by
    obtain ⟨a, b, c⟩ := plains_ok xs (by simpa [plain] using h)
    exact ⟨by simpa [Vd.nice] using a, by simpa [txt] using b, by simpa [small] using c⟩
  | .dict _, h => by cases h
theorem plains_ok : ∀ ds : List PyData, plains ds = true → nices ds = true ∧ txts ds = true ∧ smalls ds = true
  | [], _ => ⟨rfl, rfl, rfl⟩
  | d :: ds, h => by
    simp only [plains, Bool.and_eq_true] at h
    obtain ⟨a1, a2, a3⟩ := plain_ok d h.1
    obtain ⟨b1, b2, b3⟩ := plains_ok ds h.2
    exact ⟨by simp [nices, a1, b1], by simp [txts, a2, b2], by simp [smalls, a3, b3]⟩
end
mutual
theorem plain_canLay : ∀ d : PyData, plain d = true → d.canLay0 = true
  | .none, h => by cases h
  | .bool _, h => by cases h
  | .int i, _ => rfl
  | .str x, h => by
    simp only [plain, Bool.and_eq_true] at h
    show (x.cps.all fun c => decide (c < 0x110000)) = true
    rw [← Array.all_toList]
    exact h.2
  | .list _, h => by cases h
  | .tuple xs, h => by
    show PyData.canLayAll0 xs = true
    exact plains_canLay xs (by simpa [plain] using h)
  | .dict _, h => by cases h
theorem plains_canLay : ∀ ds : List PyData, plains ds = true → PyData.canLayAll0 ds = true
  | [], _ => rfl
  | d :: ds, h => by
    simp only [plains, Bool.and_eq_true] at h
    show (d.canLay0 && PyData.canLayAll0 ds) = true
    rw [plain_canLay d h.1, plains_canLay ds h.2]
    rfl
end
structure Plain (W D : Nat) (d : PyData) : Prop where
  is : plain d = true
  wgt : Vd.wgt d ≤ W
  deep : d.depth ≤ D
theorem Plain.fit {W D : Nat} {d : PyData} (h : Plain W D d) : Fit W D d := by
  obtain ⟨a, b, c⟩ := plain_ok d h.is
  exact ⟨a, b, c, h.wgt, h.deep⟩
theorem Plain.shaped {W D : Nat} {d : PyData} (h : Plain W D d) (hd : D ≤ 64) : SeqAt.shaped d = true := by
  show (d.canLay0 && decide (d.depth ≤ 64)) = true
  rw [plain_canLay d h.is, decide_eq_true (Nat.le_trans h.deep hd)]
  rfl
theorem depth_mem {d : PyData} : ∀ {ds : List PyData}, d ∈ ds → d.depth ≤ PyData.depthAll ds
  | _ :: _, .head _ => Nat.le_max_left _ _
  | _ :: _, .tail _ m => Nat.le_trans (depth_mem m) (Nat.le_max_right _ _)
theorem len_wgts : ∀ ds : List PyData, ds.length ≤ wgts ds
  | [] => Nat.zero_le _
  | d :: ds => by
    have := len_wgts ds
    show ds.length + 1 ≤ Vd.wgt d + 2 + wgts ds
    omega
theorem wgts_mem : ∀ {ds : List PyData}, ∀ d ∈ ds, wgt d ≤ wgts ds
  | x :: xs, d, m => by
    show wgt d ≤ wgt x + 2 + wgts xs
    cases m with
    | head => omega
    | tail _ m =>
      have := wgts_mem d m
      omega
theorem Plain.part {W D : Nat} {ds : List PyData} (h : Plain W D (.tuple ds)) {d : PyData} (m : d ∈ ds) : Plain W D d := by
  have h1 := h.wgt
  have h2 := h.deep
  have e : Vd.wgt (.tuple ds) = wgts ds + 4 := rfl
  have e2 : (PyData.tuple ds).depth = PyData.depthAll ds + 1 := rfl
  have := wgts_mem d m
  have := depth_mem m
  exact ⟨plains_mem h.is d m, by omega, by omega⟩
theorem wgts_app : ∀ as bs : List PyData, wgts (as ++ bs) = wgts as + wgts bs
  | [], bs => (Nat.zero_add _).symm
  | a :: as, bs => by
    show Vd.wgt a + 2 + wgts (as ++ bs) = Vd.wgt a + 2 + wgts as + wgts bs
    rw [wgts_app as bs]
    omega
theorem wgts_rev : ∀ ds : List PyData, wgts ds.reverse = wgts ds
  | [] => rfl
  | d :: ds => by
    rw [List.reverse_cons, wgts_app, wgts_rev ds]
    show wgts ds + (Vd.wgt d + 2 + 0) = Vd.wgt d + 2 + wgts ds
    omega
theorem wgts_drop (ds : List PyData) (n : Nat) : wgts (ds.drop n) ≤ wgts ds := by
  have e := wgts_app (ds.take n) (ds.drop n)
  rw [List.take_append_drop] at e
  omega
theorem wgts_take (ds : List PyData) (n : Nat) : wgts (ds.take n) ≤ wgts ds := by
  have e := wgts_app (ds.take n) (ds.drop n)
  rw [List.take_append_drop] at e
  omega
theorem cut_wgts (ds : List PyData) (lo hi : Option Int) : wgts (Pd.cutD ds lo hi) ≤ wgts ds := Nat.le_trans (wgts_take _ _) (wgts_drop _ _)
theorem cut_mem {ds : List PyData} {lo hi : Option Int} {d : PyData} (m : d ∈ Pd.cutD ds lo hi) : d ∈ ds := List.mem_of_mem_drop (List.mem_of_mem_take m)
theorem cut_len (ds : List PyData) (lo hi : Option Int) : (Pd.cutD ds lo hi).length ≤ ds.length := by
  unfold Pd.cutD
  rw [List.length_take, List.length_drop]
  omega
theorem nices_of : ∀ {ds : List PyData}, (∀ d ∈ ds, Vd.nice d = true ∧ Cm.txt d = true ∧ Cm.small d = true) → nices ds = true ∧ txts ds = true ∧ smalls ds = true
  | [], _ => ⟨rfl, rfl, rfl⟩
  | d :: ds, h => by
    obtain ⟨a1, a2, a3⟩ := h d (.head _)
    obtain ⟨b1, b2, b3⟩ := nices_of (ds := ds) fun e m => h e (.tail _ m)
    exact ⟨by simp [nices, a1, b1], by simp [txts, a2, b2], by simp [smalls, a3, b3]⟩
theorem depthAll_le {D : Nat} : ∀ {ds : List PyData}, (∀ d ∈ ds, d.depth ≤ D) → PyData.depthAll ds ≤ D
  | [], _ => Nat.zero_le _
  | d :: ds, h => Nat.max_le.mpr ⟨h d (.head _), depthAll_le fun e m => h e (.tail _ m)⟩
/-- a tuple of fitting things, its weight told -/
theorem Fit.tupW {W D : Nat} {ds : List PyData} (h : ∀ d ∈ ds, Vd.nice d = true ∧ Cm.txt d = true ∧ Cm.small d = true ∧ d.depth ≤ D) (w : wgts ds + 4 ≤ W) : Fit W (D + 1) (.tuple ds) := by
  obtain ⟨a, b, c⟩ := nices_of (ds := ds) fun d m => ⟨(h d m).1, (h d m).2.1, (h d m).2.2.1⟩
  exact ⟨by simpa [Vd.nice] using a, by simpa [Cm.txt] using b, by simpa [Cm.small] using c, w, Nat.succ_le_succ (depthAll_le fun d m => (h d m).2.2.2)⟩
theorem Fit.lstW {W D : Nat} {ds : List PyData} (h : ∀ d ∈ ds, Vd.nice d = true ∧ d.depth ≤ D) (w : wgts ds + 2 ≤ W) : Fit W (D + 1) (.list ds) := by
  refine ⟨?_, rfl, rfl, w, Nat.succ_le_succ (depthAll_le fun d m => (h d m).2)⟩
  show nices ds = true
  clear w
  induction ds with
  | nil => rfl
  | cons d ds ih =>
    show (Vd.nice d && nices ds) = true
    rw [(h d (.head _)).1, ih fun e m => h e (.tail _ m)]
    rfl
/-! ### how an int is shown -/
theorem int_txt (i : Int) : ∀ c ∈ (Str.ofString (toString i)).cps.toList, c < 58 := fun c m => by
  by_cases h : c = 45
  · omega
  · by_cases h2 : c < 48 ∨ 57 < c
    · exact absurd m (int_text_free' c ⟨h, h2⟩ i)
    · omega
theorem int_low {i : Int} (h : i.natAbs ≤ 100000000) : i.natAbs < 2 ^ 400 := Nat.lt_of_le_of_lt h (by decide)
theorem int_str {i : Int} (h : i.natAbs ≤ 1000000) : Fit 20000 0 (.str (toString i : String)) := by
  have lt : i.natAbs < 2 ^ 400 := Nat.lt_of_le_of_lt h (by decide)
  have len := int_text_len_1921 (i := i) (Nat.lt_of_lt_of_le (PySem.Flt.log2_lt_of (by decide) lt) (by decide))
  have al : ((Str.ofString (toString i)).cps.toList.all fun c => decide (c < 0x110000)) = true := List.all_eq_true.mpr fun c m => decide_eq_true (by have := int_txt i c m; omega)
  refine ⟨txt_nice al, ?_, rfl, ?_, Nat.le_refl _⟩
  · simp only [txt, Bool.and_eq_true]
    exact ⟨decide_eq_true (by omega), al⟩
  · show 10 * (Str.ofString (toString i)).length + 2 ≤ 20000
    omega
theorem int_fit {i : Int} (h : i.natAbs ≤ 100000000) : Fit 20000 0 (.int i) := by
  have lt := int_low h
  exact ⟨decide_eq_true (Nat.lt_of_lt_of_le (PySem.Flt.log2_lt_of (by decide) lt) (by decide)), rfl, decide_eq_true lt, (by decide : (1921 : Nat) ≤ 20000), Nat.le_refl _⟩
theorem twice_fit {x y : Str} (h : plain (.str x) = true) (e : y.cps.toList = x.cps.toList ++ x.cps.toList) : Fit 20000 0 (.str y) := by
  simp only [plain, Bool.and_eq_true] at h
  have le : x.length ≤ 20 := of_decide_eq_true h.1
  have len : y.length ≤ 40 := by
    have := congrArg List.length e
    rw [List.length_append] at this
    have e1 : y.length = y.cps.toList.length := by simp [Str.length]
    have e2 : x.length = x.cps.toList.length := by simp [Str.length]
    omega
  have al : (y.cps.toList.all fun c => decide (c < 0x110000)) = true := by rw [e, List.all_append, h.2]; rfl
  refine ⟨txt_nice al, ?_, rfl, ?_, Nat.le_refl _⟩
  · simp only [Cm.txt, Bool.and_eq_true]
    exact ⟨decide_eq_true (by omega), al⟩
  · show 10 * y.length + 2 ≤ 20000
    omega
end Cm

/-! D15: dict displays by data; parts that are never come to -/
namespace Pd
open PySem PySem.Spec PyProof.Rows L2 Vd
open Classical
def tNo : TE := fun _ _ _ => False
def tNoT : TT := fun _ _ _ => False
def dNo_ : DE := fun _ _ => False
def dNoT : DT := fun _ _ => False
theorem pd_no {X : Cx} {e : Expr} : PD X e tNo dNo_ := ⟨⟨fun _ _ _ _ _ _ h => h.elim⟩, ⟨fun _ _ _ _ _ _ _ h _ => h.elim⟩⟩
theorem pdt_no {X : Cx} {e : Expr} : PDT X e tNoT dNoT := ⟨⟨fun _ _ _ _ _ _ h => h.elim⟩, ⟨fun _ _ _ _ _ _ _ h _ => h.elim⟩⟩
def dDic0 : DE := fun _ P => P (.d (.dict []) .fr)
def dDic1 (k : Key) (w : DE) : DE := fun ρ P => w ρ fun r => onD r fun x f => goodF f x = true ∧ P (.d (.dict [(keyD k, x)]) .fr)
section
variable {X : Cx} {pos : Pos} {K : PySem.W.Frag}
theorem snd_dic0 : Snd K tDNewK dDic0 := ⟨fun W ρ σ H P Q S h q p np => q (.d (.dict []) .fr) _ _ (Bu.of (same_new np)) ⟨p, rfl, np, [], upd_same, .nil⟩ h⟩
theorem pd_dic0 : PD X (.Dict [] [] pos) tDNewK dDic0 := ⟨pe_dnewK, snd_dic0⟩
theorem bu_over {β : Option Addr} {H H1 : Hp} {p : Addr} {o o' : HO} (n : H p = none) (ne : β ≠ some p) (x : Bu β (upd H p o) H1) : Bu β H (upd H1 p o') := by
  have keep : ∀ a u, H a = some u → upd H p o a = some u ∧ ∀ {z}, H1 a = some z → upd H1 p o' a = some z := fun a u e => ⟨same_new n _ _ e, fun e2 => by rw [upd_ne (ne_of_none e n)]; exact e2⟩
  cases β with
  | none => exact fun a u e => (keep a u e).2 (x a u (keep a u e).1)
  | some b =>
    refine ⟨fun a u nb e => (keep a u e).2 (x.1 a u nb (keep a u e).1), fun i j k c e => ?_⟩
    obtain ⟨i', j', k', e'⟩ := x.2 i j k c (keep _ _ e).1
    exact ⟨i', j', k', (keep _ _ e).2 e'⟩
theorem snd_dic1 {te : TE} {w : DE} {k : Key} (h : Snd K te w) : Snd K (tDisp [(tC (kV k), te)]) (dDic1 k w) := ⟨fun W ρ σ H P Q S hw q p np => by
  have S1 : Sim K (hideW W p) ρ σ (upd H p (.dK [])) := sim_hide S np
  refine h.go (hideW W p) ρ σ _ _ _ S1 hw fun r v H1 s1 e1 p1 => ?_
  cases r with
  | bag => exact p1.elim
  | d x f =>
    obtain ⟨g, p1⟩ := p1
    have ne := (S.new np).2.1
    have s1' : Bu W.β (upd H p (.dK [])) H1 := s1
    have dx := ER.gd S1 s1 e1 g
    refine ⟨s1'.at ne upd_same, [(k, v)], rfl, by show 1 ≤ 15; decide, ?_⟩
    refine q (.d (.dict [(keyD k, x)]) .fr) _ _ (bu_over np ne s1') ⟨p, rfl, np, [(k, v)], upd_same, .cons (Dat.up (res_up fun a o ok e => ?_) dx) .nil⟩ p1
    have ⟨k1, k2⟩ := hide_okg ok
    exact ⟨⟨k1, k2⟩, by rw [upd_ne k2]; exact e⟩⟩
theorem pd_dic1 {ke e : Expr} {te : TE} {w : DE} {k : Key} (hk : PE X ke (tC (kV k))) (h : PD X e te w) : PD X (.Dict [some ke] [e] pos) (tDisp [(tC (kV k), te)]) (dDic1 k w) :=
  ⟨pe_disp (pps_cons hk h.pe pps_nil) rfl rfl (by intro h; cases h) (by show 1 ≤ 15; decide), snd_dic1 h.snd⟩
end
end Pd

namespace Cm
open PySem PySem.Spec PyProof.Rows L2 Vd Pd
/-! C5: arcs by the law, live halls, drawn halls -/
/-! _law_arcs -/
abbrev N__law_arcs : List Str := ["hall", "name", "found", "at", "belt"]
def ws__law_arcs : DS := (dSeq (dSetO 2 (dLst (dCons (dTup (dCons (dTup (dCons (dC (.str "next")) (dCons (dVar 1) dNil))) (dCons (dVar 1) (dCons (dC (.int 1)) dNil)))) dNil)))
  (dSeq (dExt 2 (dLc (dEnum (dCons (dOp wIx (dVar 0) (dC (.int 1))) dNil)) (wgTup 2 (wgCons (fun r ρ P => asgD 3 r ρ P) (wgCons (fun r ρ P => asgD 4 r ρ P) wgNil))) (dTest (dOp wEq (dOp wIx (dVar 4) (dC (.int 0))) (dVar 1))) (dTup (dCons (dTup (dCons (dC (.str "down")) (dCons (dVar 3) dNil))) (dCons (dOp wIx (dVar 4) (dC (.int 1))) (dCons (dOp wIx (dVar 4) (dC (.int 3))) dNil)))) [3, 4]))
  (dRet (dOp wAdd (dVar 2) (dLc (dEnum (dCons (dOp wIx (dVar 0) (dC (.int 1))) dNil)) (wgTup 2 (wgCons (fun r ρ P => asgD 3 r ρ P) (wgCons (fun r ρ P => asgD 4 r ρ P) wgNil))) (dTest (dOp wEq (dOp wIx (dVar 4) (dC (.int 1))) (dVar 1))) (dTup (dCons (dTup (dCons (dC (.str "up")) (dCons (dVar 3) dNil))) (dCons (dOp wIx (dVar 4) (dC (.int 0))) (dCons (dOp wSub (dOp wIx (dVar 4) (dC (.int 2))) (dOp wIx (dVar 4) (dC (.int 3)))) dNil)))) [3, 4])))))
abbrev W__law_arcs : WF := runD N__law_arcs ws__law_arcs
abbrev ArcT := Arc × Str × Int
def arcT (t : ArcT) : PyData := .tuple [arcD t.1, .str t.2.1, .int t.2.2]
def downOf (x : Str) (p : Belt × Nat) : Option ArcT := if p.1.1 = x then some (.down p.2, p.1.2.1, p.1.2.2.2) else none
def upOf (x : Str) (p : Belt × Nat) : Option ArcT := if p.1.2.1 = x then some (.up p.2, p.1.1, p.1.2.2.1 - p.1.2.2.2) else none
def arcsOf (h : Hall) (x : Str) : List ArcT := (.next x, x, 1) :: h.bs.zipIdx.filterMap (downOf x) ++ h.bs.zipIdx.filterMap (upOf x)
theorem enumD_map {α : Type} (f : α → PyData) (l : List α) : enumD (l.map f) = l.zipIdx.map fun p => .tuple [.int (p.2 : Nat), f p.1] := by
  unfold enumD
  rw [List.zipIdx_map, List.map_map]
  rfl
theorem filter_map_map {α β : Type} (f : α → Option β) (t : β → PyData) (l : List α) : l.filterMap (fun a => (f a).map t) = (l.filterMap f).map t := (List.map_filterMap ..).symm
def V__law_arcs : WF := fun as P => ∃ (h : Hall) (x : Str), as = [.dat (hallD h), .dat (.str x)] ∧ h.bs.length ≤ 1000 ∧ P (.d (.list ((arcsOf h x).map arcT)) .fr)
theorem w__law_arcs {as : List Sl} {P : DK} (hv : V__law_arcs as P) : W__law_arcs as P := by
  obtain ⟨h, x, rfl, few, p⟩ := hv
  have lz : h.bs.zipIdx.length = h.bs.length := List.length_zipIdx
  have l1 : ((h.bs.zipIdx.filterMap (downOf x)).map arcT).length ≤ 1000 := by
    rw [List.length_map]
    have := List.length_filterMap_le (downOf x) h.bs.zipIdx
    omega
  have l2 : ((h.bs.zipIdx.filterMap (upOf x)).map arcT).length ≤ 1000 := by
    rw [List.length_map]
    have := List.length_filterMap_le (upOf x) h.bs.zipIdx
    omega
  refine ⟨leb rfl, leb rfl, leb rfl, _, rfl, rfl, rfl, ?_⟩
  rw [enumD_map]
  refine lc_gen (fun p : Belt × Nat => .tuple [.int (p.2 : Nat), beltD p.1]) (fun p => (downOf x p).map arcT) h.bs.zipIdx [] (by rw [lz]; simp; omega) (fun b _ acc k' few' next => ?_) ?_
  · refine ⟨rfl, rfl, rfl, rfl, rfl, _, rfl, iteD (fun hc => ?_) (fun hc => ?_)⟩
    · have e : downOf x b = some (.down b.2, b.1.2.1, b.1.2.2.2) := if_pos hc
      rw [e] at next
      exact ⟨leb rfl, _, rfl, _, rfl, leb rfl, rfl, few', next⟩
    · have e : downOf x b = none := if_neg hc
      rw [e] at next
      rw [← List.append_nil acc]
      exact next
  · rw [filter_map_map, List.nil_append]
    refine ⟨.inl rfl, by show 1 + _ ≤ _; omega, _, rfl, rfl, rfl, ?_⟩
    rw [enumD_map]
    refine lc_gen (fun p : Belt × Nat => .tuple [.int (p.2 : Nat), beltD p.1]) (fun p => (upOf x p).map arcT) h.bs.zipIdx [] (by rw [lz]; simp; omega) (fun b _ acc k' few' next => ?_) ?_
    · refine ⟨rfl, rfl, rfl, rfl, rfl, _, rfl, iteD (fun hc => ?_) (fun hc => ?_)⟩
      · have e : upOf x b = some (.up b.2, b.1.1, b.1.2.2.1 - b.1.2.2.2) := if_pos hc
        rw [e] at next
        exact ⟨leb rfl, _, rfl, _, rfl, _, rfl, leb rfl, rfl, few', next⟩
      · have e : upOf x b = none := if_neg hc
        rw [e] at next
        rw [← List.append_nil acc]
        exact next
    · rw [filter_map_map, List.nil_append]
      refine ⟨.inr rfl, .inl rfl, ?_, ?_⟩
      · rw [List.length_append]
        show 1 + _ + _ ≤ _
        omega
      · have e : (arcsOf h x).map arcT = ([.tuple [.tuple [.str "next", .str x], .str x, .int 1]] ++ (h.bs.zipIdx.filterMap (downOf x)).map arcT) ++ (h.bs.zipIdx.filterMap (upOf x)).map arcT := by
          unfold arcsOf
          rw [List.map_append]
          rfl
        rw [e] at p
        exact p
theorem arcs_len (h : Hall) (x : Str) : (arcsOf h x).length ≤ 1 + 2 * h.bs.length := by
  have lz : h.bs.zipIdx.length = h.bs.length := List.length_zipIdx
  have a := List.length_filterMap_le (downOf x) h.bs.zipIdx
  have b := List.length_filterMap_le (upOf x) h.bs.zipIdx
  unfold arcsOf
  rw [List.length_append, List.length_cons]
  omega
/-! ### live halls -/
def freeEnd (t : ArcT) : Option Str := if t.2.2 = 0 then some t.2.1 else none
def ledOf (h : Hall) (left : List Str) : List Str := left.flatMap fun n => (arcsOf h n).filterMap freeEnd
def liveLeft (h : Hall) : Nat → List Str
  | 0 => namesH h
  | k + 1 => (liveLeft h k).filter fun n => decide (n ∈ ledOf h (liveLeft h k))
def isLive (h : Hall) : Bool := (liveLeft h h.ms.length).isEmpty
theorem liveLeft_sub (h : Hall) : ∀ k, (liveLeft h k).Sublist (namesH h)
  | 0 => List.Sublist.refl _
  | k + 1 => List.filter_sublist.trans (liveLeft_sub h k)
theorem inX_strs (x : Str) : ∀ L : List Str, inX (.str x) (strsD L) = decide (x ∈ L)
  | [] => by simp [inX, inV, strsD]
  | y :: L => by
    have ih := inX_strs x L
    unfold inX strsD at ih ⊢
    simp only [List.map_cons, flatV_, inV, List.any_cons, List.mem_cons, eqV] at ih ⊢
    rw [ih, Bool.decide_or]
    congr 1
    by_cases e : x = y
    · subst e; simp
    · have e' : ¬ y = x := fun z => e z.symm
      simp [e, e']
theorem flat_strs (L : List Str) : (strsD L).all flatX = true := by
  unfold strsD
  rw [List.all_map]
  exact List.all_eq_true.mpr fun x _ => rfl
theorem strOk_all {x : Str} (h : (x.cps.toList.all fun c => decide (c < 0x110000)) = true) : (PyData.str x).canLay0 = true := by
  show (x.cps.all fun c => decide (c < 0x110000)) = true
  rw [← Array.all_toList]
  exact h
theorem canLay_strs : ∀ {L : List Str}, (∀ x ∈ L, (PyData.str x).canLay0 = true) → PyData.canLayAll0 (strsD L) = true
  | [], _ => rfl
  | x :: L, h => by
    show ((PyData.str x).canLay0 && PyData.canLayAll0 (strsD L)) = true
    rw [h x (.head _), canLay_strs fun y m => h y (.tail _ m)]
    rfl
theorem depth_strs : ∀ L : List Str, PyData.depthAll (strsD L) = 0
  | [] => rfl
  | x :: L => by
    show max 0 (PyData.depthAll (strsD L)) = 0
    rw [depth_strs L]
    rfl
theorem shaped_strs {L : List Str} (h : ∀ x ∈ L, (PyData.str x).canLay0 = true) : SeqAt.shaped (.list (strsD L)) = true := by
  show (PyData.canLayAll0 (strsD L) && decide (PyData.depthAll (strsD L) + 1 ≤ 64)) = true
  rw [canLay_strs h, depth_strs]
  rfl
def nameOk (x : Str) : Bool := (x.cps.toList.all fun c => decide (c < 0x110000)) && decide (x.length ≤ 20)
theorem HOk.name {most : Int} {many : Nat} {h : Hall} (ok : HOk most many h) {x : Str} (m : x ∈ namesH h) : x ∈ eight ∨ x = "fill" ∨ x = "m" := by
  obtain ⟨y, my, rfl⟩ := List.mem_map.mp m
  rcases ok.names y my with e | e
  · rw [e]
    exact .inr ok.fl
  · exact .inl e
theorem HOk.nameOk {most : Int} {many : Nat} {h : Hall} (ok : HOk most many h) {x : Str} (m : x ∈ namesH h) : nameOk x = true := by
  rcases ok.name m with e | e | e
  · revert x
    intro x m e
    exact (by decide +kernel : ∀ x ∈ eight, Cm.nameOk x = true) x e
  · subst e; decide +kernel
  · subst e; decide +kernel
theorem HOk.nameLay {most : Int} {many : Nat} {h : Hall} (ok : HOk most many h) {x : Str} (m : x ∈ namesH h) : (PyData.str x).canLay0 = true := by
  have := ok.nameOk m
  unfold Cm.nameOk at this
  rw [Bool.and_eq_true] at this
  exact strOk_all this.1
/-! _law_is_live -/
abbrev N__law_is_live : List Str := ["hall", "left", "turn", "led", "name", "arc", "end", "growth"]
def ws__law_is_live : DS := (dSeq (dSetD 1 (dOwn 1 V__law_names (dCons (dVar 0) dNil)))
  (dSeq (dFor (dRng1 (dCons (dCall wLen (dCons (dVar 1) dNil)) dNil)) (fun r ρ P => asgD 2 r ρ P)
  (dSeq (dSetO 3 (dLst dNil))
  (dSeq (dFor (dIter (dVar 1)) (fun r ρ P => asgD 4 r ρ P)
  (dExt 3 (dLc (dIter (dOwn 2 V__law_arcs (dCons (dVar 0) (dCons (dVar 4) dNil)))) (wgTup 3 (wgCons (fun r ρ P => asgD 5 r ρ P) (wgCons (fun r ρ P => asgD 6 r ρ P) (wgCons (fun r ρ P => asgD 7 r ρ P) wgNil)))) (dTest (dOp wEq (dVar 7) (dC (.int 0)))) (dVar 6) [5, 6, 7])))
  (dSetD 1 (dLc (dIter (dVar 1)) (fun r ρ P => asgD 4 r ρ P) (dTest (dOp (wIn false) (dVar 4) (dVar 3))) (dVar 4) [4])))))
  (dRet (dOp wEq (dVar 1) (dLst dNil)))))
abbrev W__law_is_live : WF := runD N__law_is_live ws__law_is_live
def V__law_is_live : WF := fun as P => ∃ (h : Hall) (most : Int) (many : Nat), as = [.dat (hallD h)] ∧ HOk most many h ∧ many ≤ 8 ∧ P (atom (.bool (isLive h)))
theorem w__law_is_live {as : List Sl} {P : DK} (hv : V__law_is_live as P) : W__law_is_live as P := by
  obtain ⟨h, most, many, rfl, ok, many8, p⟩ := hv
  have few := ok.few
  have fewB := ok.fewB
  have ln : (namesH h).length = h.ms.length := List.length_map ..
  have lenL : ∀ k, (liveLeft h k).length ≤ 9 := fun k => by
    have := (liveLeft_sub h k).length_le
    omega
  have ls : ∀ L : List Str, (strsD L).length = L.length := fun L => List.length_map ..
  have e0 : ((((strsD (namesH h)).length : Nat) : Int)).toNat = h.ms.length := by rw [ls, ln]; rfl
  refine ⟨rfl, h, rfl, by omega, rfl, by rw [ls]; omega, by rw [ls]; omega, rfl, ?_⟩
  rw [e0]
  refine for_gen (fun i : Nat => PyData.int (0 + (i : Nat))) (fun done ρ => ∃ s2 s3 s4, ρ = [.dat (hallD h), .dat (.list (strsD (liveLeft h done.length))), s2, s3, s4, .un, .un, .un] ∧ (s4 = .un ∨ ∃ z, s4 = .dat z)) _ _ ⟨_, _, _, rfl, .inl rfl⟩ ?_ ?_
  · rintro done i rest _ C e ⟨s2, s3, s4, rfl, un4⟩ next
    have few9 := lenL done.length
    refine ⟨rfl, leb rfl, rfl, ?_⟩
    refine for_gen PyData.str (fun seen ρ => ∃ s4 E, ρ = [.dat (hallD h), .dat (.list (strsD (liveLeft h done.length))), .dat (.int (0 + (i : Nat))), .own (.list E), s4, .un, .un, .un] ∧ E = strsD (seen.flatMap fun n => (arcsOf h n).filterMap freeEnd) ∧ E.length ≤ seen.length * 100 ∧ (s4 = .un ∨ ∃ z, s4 = .dat z)) (liveLeft h done.length) _ ⟨_, _, rfl, rfl, Nat.le_refl _, un4⟩ ?_ ?_
    · rintro seen n more _ C2 e2 ⟨s4, E, rfl, eE, lE, un⟩ next2
      have l2 : (liveLeft h done.length).length = seen.length + (more.length + 1) := by rw [e2, List.length_append, List.length_cons]
      have la := arcs_len h n
      refine ⟨rfl, rfl, h, n, rfl, by omega, rfl, ?_⟩
      refine lc_gen arcT (fun t => (freeEnd t).map PyData.str) (arcsOf h n) [] (by simp; omega) (fun t _ acc k' few' nx => ?_) ?_
      · refine ⟨rfl, rfl, rfl, rfl, rfl, rfl, iteD (fun hc => ?_) (fun hc => ?_)⟩
        · have e : freeEnd t = some t.2.1 := if_pos hc
          rw [e] at nx
          exact ⟨rfl, few', nx⟩
        · have e : freeEnd t = none := if_neg hc
          rw [e] at nx
          rw [← List.append_nil acc]
          exact nx
      · rw [filter_map_map, List.nil_append]
        have lf := List.length_filterMap_le freeEnd (arcsOf h n)
        have lm : (((arcsOf h n).filterMap freeEnd).map PyData.str).length ≤ 100 := by rw [List.length_map]; omega
        refine ⟨.inl rfl, by omega, next2 _ ⟨_, _, rfl, ?_, ?_, .inr ⟨_, rfl⟩⟩⟩
        · rw [eE, List.flatMap_append]
          unfold strsD
          rw [List.map_append]
          congr 1
          simp
        · rw [List.length_append, List.length_append]
          show _ ≤ (seen.length + 1) * 100
          omega
    · rintro _ ⟨s4, E, rfl, eE, lE, un⟩
      have led : E = strsD (ledOf h (liveLeft h done.length)) := eE
      have no4 : noOwnAt [.dat (hallD h), .dat (.list (strsD (liveLeft h done.length))), .dat (.int (0 + (i : Nat))), .own (.list E), s4, .un, .un, .un] [4] = true := by
        rcases un with rfl | ⟨z, rfl⟩ <;> rfl
      refine ⟨no4, ?_⟩
      refine lc_gen PyData.str (fun n => (if n ∈ ledOf h (liveLeft h done.length) then some n else none).map PyData.str) (liveLeft h done.length) [] (by simp; omega) (fun n _ acc k' few' nx => ?_) ?_
      · refine ⟨rfl, rfl, ?_⟩
        have fl : E.all flatX = true := by rw [led]; exact flat_strs _
        refine ⟨fl, ?_⟩
        show (if inX (.str n) E = true then _ else _)
        rw [led, inX_strs]
        refine iteD (fun hc => ?_) (fun hc => ?_)
        · rw [if_pos hc] at nx
          exact ⟨rfl, few', nx⟩
        · rw [if_neg hc] at nx
          rw [← List.append_nil acc]
          exact nx
      · rw [filter_map_map, List.nil_append]
        have e3 : (liveLeft h done.length).filterMap (fun n => if n ∈ ledOf h (liveLeft h done.length) then some n else none) = liveLeft h (done.length + 1) := by
          show _ = (liveLeft h done.length).filter fun n => decide (n ∈ ledOf h (liveLeft h done.length))
          rw [← List.filterMap_eq_filter]
          congr 1
          funext n
          by_cases hc : n ∈ ledOf h (liveLeft h done.length)
          · simp [hc, Option.guard]
          · simp [hc, Option.guard]
        rw [e3]
        refine ⟨rfl, next _ ⟨.dat (.int (0 + (i : Nat))), .own (.list E), s4, ?_, un⟩⟩
        rw [List.length_append]
        rfl
  · rintro _ ⟨s2, s3, s4, rfl, un4⟩
    rw [List.length_range]
    have sub := liveLeft_sub h h.ms.length
    have sh : SeqAt.shaped (.list (strsD (liveLeft h h.ms.length))) = true := shaped_strs fun x m => ok.nameLay (sub.subset m)
    have ev : PyData.eqv (.list (strsD (liveLeft h h.ms.length))) (.list []) = isLive h := by
      unfold isLive
      cases liveLeft h h.ms.length <;> rfl
    refine ⟨leb rfl, sh, rfl, ?_⟩
    show P (atom (.bool (PyData.eqv (.list (strsD (liveLeft h h.ms.length))) (.list []))))
    rw [ev]
    exact p
/-! ### drawn halls, live ones -/
abbrev LiveB (h : Hall) : Prop := isLive h = true ∨ ∀ m ∈ h.bs, 1 ≤ m.2.2.2 ∧ m.2.2.2 < m.2.2.1
/-! _law_hall -/
abbrev N__law_hall : List Str := ["bag", "machines", "most", "hall", "belts", "start", "end", "room", "first"]
def ws__law_hall : DS := (dSeq (dSetD 3 (dOwn 3 V__law_web (dCons (dVar 0) (dCons (dVar 1) (dCons (dVar 2) dNil)))))
  (dSeq (dIf (dTru (dOwn 1 V__law_is_live (dCons (dVar 3) dNil))) (dRet (dVar 3)) dNext)
  (dSeq (dSetO 4 (dLst dNil))
  (dSeq (dFor (dIter (dOp wIx (dVar 3) (dC (.int 1)))) (wgTup 4 (wgCons (fun r ρ P => asgD 5 r ρ P) (wgCons (fun r ρ P => asgD 6 r ρ P) (wgCons (fun r ρ P => asgD 7 r ρ P) (wgCons (fun r ρ P => asgD 8 r ρ P) wgNil)))))
  (dSeq (dSetD 7 (dCall wMax2 (dCons (dC (.int 2)) (dCons (dVar 7) dNil))))
  (dApp 4 (dTup (dCons (dVar 5) (dCons (dVar 6) (dCons (dVar 7) (dCons (dCall wMin2 (dCons (dOp wSub (dVar 7) (dC (.int 1))) (dCons (dCall wMax2 (dCons (dC (.int 1)) (dCons (dVar 8) dNil))) dNil))) dNil))))))))
  (dRet (dTup (dCons (dOp wIx (dVar 3) (dC (.int 0))) (dCons (dCall wTuple (dCons (dVar 4) dNil)) (dCons (dOp wIx (dVar 3) (dC (.int 2))) dNil)))))))))
abbrev W__law_hall : WF := runD N__law_hall ws__law_hall
def V__law_hall : WF := fun as P => ∃ (many : Nat) (most : Int), as = [.bag, .dat (.int (many : Nat)), .dat (.int most)] ∧ many ≤ 8 ∧ 0 < most ∧ most < 1000000 ∧ ∀ h : Hall, HOk most many h → LiveB h → P (.d (hallD h) .gd)
def wider (m : Belt) : Belt := (m.1, m.2.1, max 2 m.2.2.1, min (max 2 m.2.2.1 - 1) (max 1 m.2.2.2))
theorem HOk.wider {most : Int} {many : Nat} {h : Hall} (ok : HOk most many h) : HOk most many ⟨h.ms, h.bs.map wider, h.fl⟩ := by
  refine ⟨ok.asc, ok.ms, ok.names, ok.fl, ok.pace, fun m mm => ?_, fun m mm => ?_, ok.few, by rw [List.length_map]; exact ok.fewB⟩
  · obtain ⟨b, mb, rfl⟩ := List.mem_map.mp mm
    obtain ⟨a1, a2, a3, a4, a5, a6, a7⟩ := ok.bs b mb
    exact ⟨a1, a2, a3, by show 1 ≤ max 2 b.2.2.1; omega, by show max 2 b.2.2.1 ≤ 5; omega, by show 0 ≤ min (max 2 b.2.2.1 - 1) (max 1 b.2.2.2); omega, by show min (max 2 b.2.2.1 - 1) (max 1 b.2.2.2) ≤ max 2 b.2.2.1; omega⟩
  · exact (ok.joined m mm).like fun b mb => ⟨Cm.wider b, List.mem_map_of_mem mb, rfl, rfl⟩
theorem wider_is (m : Belt) : PyData.tuple [.str m.1, .str m.2.1, .int (if m.2.2.1 > 2 then m.2.2.1 else 2), .int (if (if m.2.2.2 > 1 then m.2.2.2 else 1) < (if m.2.2.1 > 2 then m.2.2.1 else 2) - 1 then (if m.2.2.2 > 1 then m.2.2.2 else 1) else (if m.2.2.1 > 2 then m.2.2.1 else 2) - 1)] = beltD (wider m) := by
  have e1 : (if m.2.2.1 > 2 then m.2.2.1 else 2) = max 2 m.2.2.1 := by omega
  have e2 : (if m.2.2.2 > 1 then m.2.2.2 else 1) = max 1 m.2.2.2 := by omega
  rw [e1, e2]
  have e3 : (if max 1 m.2.2.2 < max 2 m.2.2.1 - 1 then max 1 m.2.2.2 else max 2 m.2.2.1 - 1) = min (max 2 m.2.2.1 - 1) (max 1 m.2.2.2) := by omega
  rw [e3]
  rfl
theorem w__law_hall {as : List Sl} {P : DK} (hv : V__law_hall as P) : W__law_hall as P := by
  obtain ⟨many, most, rfl, many8, pos, bd, p⟩ := hv
  refine ⟨rfl, many, most, rfl, many8, pos, bd, fun h ok => ⟨rfl, rfl, h, most, many, rfl, ok, many8, ?_⟩⟩
  refine iteB (fun hl => p h ok (.inl hl)) (fun hl => ?_)
  have fewB := ok.fewB
  refine ⟨leb rfl, _, rfl, rfl, rfl, ?_⟩
  refine for_gen beltD (fun done ρ => ∃ F s5 s6 s7 s8, ρ = [.bag, .dat (.int (many : Nat)), .dat (.int most), .dat (hallD h), .own (.list F), s5, s6, s7, s8] ∧ F = (done.map wider).map beltD) h.bs _ ⟨_, _, _, _, _, rfl, rfl⟩ ?_ ?_
  · rintro done m rest _ C e ⟨F, s5, s6, s7, s8, rfl, eF⟩ next
    have ld : h.bs.length = done.length + (rest.length + 1) := by rw [e, List.length_append, List.length_cons]
    refine ⟨rfl, rfl, rfl, rfl, rfl, rfl, rfl, rfl, leb rfl, rfl, by rw [eF, List.length_map, List.length_map]; omega, ?_⟩
    refine next _ ⟨_, .dat (.str m.1), .dat (.str m.2.1), .dat (.int (if m.2.2.1 > 2 then m.2.2.1 else 2)), .dat (.int m.2.2.2), rfl, ?_⟩
    rw [List.map_append, List.map_append, ← eF]
    exact congrArg (fun x => F ++ [x]) (wider_is m)
  · rintro _ ⟨F, s5, s6, s7, s8, rfl, eF⟩
    have pu : pures F = true := by rw [eF]; exact pure_belts _
    refine ⟨_, rfl, _, rfl, leb rfl, ?_⟩
    have := p ⟨h.ms, h.bs.map wider, h.fl⟩ ok.wider (.inr fun m mm => ?_)
    · rw [eF]
      exact this
    · obtain ⟨b, mb, rfl⟩ := List.mem_map.mp mm
      obtain ⟨a1, a2, a3, a4, a5, a6, a7⟩ := ok.bs b mb
      exact ⟨by show 1 ≤ min (max 2 b.2.2.1 - 1) (max 1 b.2.2.2); omega, by show min (max 2 b.2.2.1 - 1) (max 1 b.2.2.2) < max 2 b.2.2.1; omega⟩
/-! _law_any_hall -/
abbrev N__law_any_hall : List Str := ["bag", "machines", "way"]
def ws__law_any_hall : DS := (dSeq (dSetD 1 (dOwn 2 V__law_some (dCons (dVar 0) (dCons (dLst (dCons (dC (.int 2)) (dCons (dC (.int 1)) (dCons (dC (.int 3)) (dCons (dC (.int 0)) (dCons (dC (.int 2)) dNil)))))) dNil))))
  (dSeq (dSetD 2 (dOwn 2 V__law_take (dCons (dVar 0) (dCons (dC (.int 6)) dNil))))
  (dSeq (dIf (dTest (dOp wEq (dVar 2) (dC (.int 0)))) (dRet (dOwn 3 V__law_web (dCons (dVar 0) (dCons (dVar 1) (dCons (dC (.int 3)) dNil))))) dNext)
  (dSeq (dIf (dTest (dOp wEq (dVar 2) (dC (.int 1)))) (dRet (dOwn 3 V__law_line (dCons (dVar 0) (dCons (dVar 1) (dCons (dC (.int 3)) dNil))))) dNext)
  (dSeq (dIf (dTest (dOp wEq (dVar 2) (dC (.int 2)))) (dRet (dOwn 3 V__law_tree (dCons (dVar 0) (dCons (dVar 1) (dCons (dC (.int 3)) dNil))))) dNext)
  (dRet (dOwn 3 V__law_hall (dCons (dVar 0) (dCons (dVar 1) (dCons (dC (.int 3)) dNil))))))))))
abbrev W__law_any_hall : WF := runD N__law_any_hall ws__law_any_hall
def V__law_any_hall : WF := fun as P => as = [.bag] ∧ ∀ h : Hall, HOk 3 3 h → P (.d (hallD h) .gd)
theorem w__law_any_hall {as : List Sl} {P : DK} (hv : V__law_any_hall as P) : W__law_any_hall as P := by
  obtain ⟨rfl, p⟩ := hv
  have up : ∀ {many : Nat} {h : Hall}, many ≤ 3 → HOk 3 many h → HOk 3 3 h := fun le ok => ⟨ok.asc, ok.ms, ok.names, ok.fl, ok.pace, ok.bs, ok.joined, Nat.le_trans ok.few (by omega), Nat.le_trans ok.fewB (by omega)⟩
  refine ⟨leb rfl, rfl, _, rfl, by decide, by decide, fun x mx => ?_⟩
  obtain ⟨many, rfl, m3⟩ : ∃ many : Nat, x = .int (many : Nat) ∧ many ≤ 3 := by
    simp only [List.mem_cons, List.not_mem_nil, or_false] at mx
    rcases mx with e | e | e | e | e
    · exact ⟨2, e, by decide⟩
    · exact ⟨1, e, by decide⟩
    · exact ⟨3, e, by decide⟩
    · exact ⟨0, e, by decide⟩
    · exact ⟨2, e, by decide⟩
  refine ⟨rfl, rfl, _, rfl, by decide, by decide, fun k k0 k1 => ⟨rfl, ?_⟩⟩
  refine iteD (fun _ => ⟨rfl, many, 3, rfl, by omega, by decide, by decide, fun h ok => p h (up m3 ok)⟩) (fun _ => ?_)
  refine iteD (fun _ => ⟨rfl, many, 3, rfl, by omega, by decide, by decide, fun h ok _ _ => p h (up m3 ok)⟩) (fun _ => ?_)
  refine iteD (fun _ => ⟨rfl, many, 3, rfl, by omega, by decide, by decide, fun h ok _ _ => p h (up m3 ok)⟩) (fun _ => ?_)
  exact ⟨rfl, many, 3, rfl, by omega, by decide, by decide, fun h ok _ => p h (up m3 ok)⟩
end Cm

namespace Cm
open PySem PySem.Spec PyProof.Rows L2 Vd Pd
/-! C6: states -/
def rowD (r : List Int) : PyData := .tuple (r.map PyData.int)
def stD (x : Str) (rows : List (List Int)) : PyData := .tuple [.str x, .tuple (rows.map rowD)]
def fullRows (h : Hall) : List (List Int) := h.ms.map fun m => m.2.2.map (·.1)
abbrev Few (h : Hall) : Prop := h.ms.length ≤ 1000 ∧ h.bs.length ≤ 1000 ∧ ∀ m ∈ h.ms, m.2.2.length ≤ 1000
theorem HOk.few_ {most : Int} {many : Nat} {h : Hall} (ok : HOk most many h) (le : many ≤ 8) : Few h := ⟨Nat.le_trans ok.few (by omega), Nat.le_trans ok.fewB (by omega), fun m mm => Nat.le_trans (ok.ms m mm).2.2.1 (by omega)⟩
/-! _law_full -/
abbrev N__law_full : List Str := ["hall", "name", "time", "purses", "size", "back"]
def ws__law_full : DS := (dRet (dCall wTuple (dCons (dLc (dIter (dOp wIx (dVar 0) (dC (.int 0)))) (wgTup 3 (wgCons (fun r ρ P => asgD 1 r ρ P) (wgCons (fun r ρ P => asgD 2 r ρ P) (wgCons (fun r ρ P => asgD 3 r ρ P) wgNil)))) dYes (dCall wTuple (dCons (dLc (dIter (dVar 3)) (wgTup 2 (wgCons (fun r ρ P => asgD 4 r ρ P) (wgCons (fun r ρ P => asgD 5 r ρ P) wgNil))) dYes (dVar 4) [4, 5]) dNil)) [1, 2, 3]) dNil)))
abbrev W__law_full : WF := runD N__law_full ws__law_full
/-! full_state -/
abbrev N_full_state : List Str := ["hall", "name", "_", "purses", "size"]
def ws_full_state : DS := (dRet (dTup (dCons (dVar 1) (dCons (dCall wTuple (dCons (dLc (dIter (dOp wIx (dVar 0) (dC (.int 0)))) (wgTup 3 (wgCons (fun r ρ P => asgD 2 r ρ P) (wgCons (fun r ρ P => asgD 2 r ρ P) (wgCons (fun r ρ P => asgD 3 r ρ P) wgNil)))) dYes (dCall wTuple (dCons (dLc (dIter (dVar 3)) (wgTup 2 (wgCons (fun r ρ P => asgD 4 r ρ P) (wgCons (fun r ρ P => asgD 2 r ρ P) wgNil))) dYes (dVar 4) [4, 2]) dNil)) [2, 3]) dNil)) dNil))))
abbrev W_full_state : WF := runD N_full_state ws_full_state
def V__law_full : WF := fun as P => ∃ h : Hall, as = [.dat (hallD h)] ∧ Few h ∧ P (.d (.tuple ((fullRows h).map rowD)) .gd)
theorem w__law_full {as : List Sl} {P : DK} (hv : V__law_full as P) : W__law_full as P := by
  obtain ⟨h, rfl, few, p⟩ := hv
  refine ⟨_, rfl, rfl, rfl, ?_⟩
  refine lc_map machD (fun m => rowD (m.2.2.map (·.1))) h.ms (by have := few.1; omega) (fun m mm acc k' few' nx => ?_) ?_
  · refine ⟨rfl, rfl, rfl, rfl, rfl, rfl, rfl, rfl, ?_⟩
    refine lc_map purseD (fun p => .int p.1) m.2.2 (by have := few.2.2 m mm; omega) (fun p _ acc2 k2 few2 nx2 => ?_) ?_
    · exact ⟨rfl, rfl, rfl, rfl, rfl, rfl, few2, nx2⟩
    · refine ⟨rfl, few', ?_⟩
      have e : m.2.2.map (fun p => PyData.int p.1) = (m.2.2.map (·.1)).map PyData.int := by rw [List.map_map]; rfl
      rw [e]
      exact nx
  · have e : h.ms.map (fun m => rowD (m.2.2.map (·.1))) = (fullRows h).map rowD := by
      unfold fullRows
      rw [List.map_map]
      rfl
    rw [e]
    exact p
def V_full_state : WF := fun as P => ∃ (h : Hall) (x : Str), as = [.dat (hallD h), .dat (.str x)] ∧ Few h ∧ P (.d (stD x (fullRows h)) .gd)
theorem w_full_state {as : List Sl} {P : DK} (hv : V_full_state as P) : W_full_state as P := by
  obtain ⟨h, x, rfl, few, p⟩ := hv
  refine ⟨_, rfl, rfl, rfl, ?_⟩
  refine lc_map machD (fun m => rowD (m.2.2.map (·.1))) h.ms (by have := few.1; omega) (fun m mm acc k' few' nx => ?_) ?_
  · refine ⟨rfl, rfl, rfl, rfl, rfl, rfl, rfl, rfl, ?_⟩
    refine lc_map purseD (fun p => .int p.1) m.2.2 (by have := few.2.2 m mm; omega) (fun p _ acc2 k2 few2 nx2 => ?_) ?_
    · exact ⟨rfl, rfl, rfl, rfl, rfl, rfl, few2, nx2⟩
    · refine ⟨rfl, few', ?_⟩
      have e : m.2.2.map (fun p => PyData.int p.1) = (m.2.2.map (·.1)).map PyData.int := by rw [List.map_map]; rfl
      rw [e]
      exact nx
  · have e : h.ms.map (fun m => rowD (m.2.2.map (·.1))) = (fullRows h).map rowD := by
      unfold fullRows
      rw [List.map_map]
      rfl
    rw [e]
    exact ⟨leb rfl, p⟩
/-! ### names -/
def letterOk (c : Nat) : Bool := decide (97 ≤ c) && decide (c ≤ 122)
def isNameX : PyData → Bool
  | .str z => decide (1 ≤ z.length) && decide (z.length ≤ 12) && z.cps.toList.all letterOk
  | _ => false
/-! is_name -/
abbrev N_is_name : List Str := ["thing", "letter"]
def ws_is_name : DS := (dSeq (dIf (dOr (dTest (dNotTy "str" (dVar 0))) (dNot (dTest (dChain wLe wLe (dC (.int 1)) (dCall wLen (dCons (dVar 0) dNil)) (dC (.int 12)))))) (dRet (dC (.bool false))) dNext)
  (dRet (dCall wAll (dCons (dLc (dIter (dVar 0)) (fun r ρ P => asgD 1 r ρ P) dYes (dChain wLe wLe (dC (.str "a")) (dVar 1) (dC (.str "z"))) [1]) dNil))))
abbrev W_is_name : WF := runD N_is_name ws_is_name
def V_is_name : WF := fun as P => ∃ d : PyData, as = [.dat d] ∧ (∀ z, d = .str z → z.length ≤ 1000000) ∧ P (atom (.bool (isNameX d)))
theorem iteN {c : Prop} [Decidable c] {A B : Prop} (h1 : c → B) (h2 : ¬ c → A) : if (!decide c) = true then A else B := by
  by_cases h : c
  · rw [decide_eq_true h]; exact (if_neg (by decide)).mpr (h1 h)
  · rw [decide_eq_false h]; exact (if_pos rfl).mpr (h2 h)
theorem below_a {c : Nat} : ([c] : List Nat) < [97] ↔ c < 97 := by simp [List.cons_lt_cons_iff]
theorem above_z {c : Nat} : ([122] : List Nat) < [c] ↔ 122 < c := by simp [List.cons_lt_cons_iff]
theorem w_is_name {as : List Sl} {P : DK} (hv : V_is_name as P) : W_is_name as P := by
  obtain ⟨d, rfl, few, p⟩ := hv
  cases d with
  | str z =>
    have no : (¬ (1 ≤ z.length ∧ z.length ≤ 12)) → P (atom (.bool false)) := fun h => by
      have e : isNameX (.str z) = false := by
        show (decide (1 ≤ z.length) && decide (z.length ≤ 12) && z.cps.toList.all letterOk) = false
        by_cases h1 : 1 ≤ z.length
        · rw [decide_eq_false (p := z.length ≤ 12) fun h2 => h ⟨h1, h2⟩, Bool.and_false, Bool.false_and]
        · rw [decide_eq_false h1, Bool.false_and, Bool.false_and]
      rw [e] at p
      exact p
    refine ⟨few z rfl, iteD (fun h1 => ?_) (fun h1 => no (by omega))⟩
    refine iteN (fun h2 => ?_) (fun h2 => no (by omega))
    refine ⟨rfl, ?_⟩
    refine lc_map (fun c => .str ⟨#[c]⟩) (fun c => .bool (letterOk c)) z.cps.toList (by have := few z rfl; simpa [Str.length] using this) (fun c _ acc k' few' nx => ?_) ?_
    · refine ⟨rfl, ?_⟩
      refine iteN (fun h => ?_) (fun h => ?_)
      · have e : letterOk c = false := by
          have : c < 97 := below_a.mp h
          unfold letterOk
          rw [decide_eq_false (by omega), Bool.false_and]
        rw [e] at nx
        exact ⟨rfl, few', nx⟩
      · have h97 : 97 ≤ c := by
          have : ¬ c < 97 := fun q => h (below_a.mpr q)
          omega
        have e : letterOk c = !decide (([122] : List Nat) < [c]) := by
          unfold letterOk
          rw [decide_eq_true h97, Bool.true_and]
          by_cases q : c ≤ 122
          · rw [decide_eq_true q, decide_eq_false (fun z => by have := above_z.mp z; omega)]
            rfl
          · rw [decide_eq_false q, decide_eq_true (above_z.mpr (by omega))]
            rfl
        rw [e] at nx
        exact ⟨rfl, few', nx⟩
    · refine ⟨_, boolsOf_map (f := letterOk) (fun _ => rfl) _, ?_⟩
      have e : isNameX (.str z) = (z.cps.toList.map letterOk).all _root_.id := by
        show (decide (1 ≤ z.length) && decide (z.length ≤ 12) && z.cps.toList.all letterOk) = _
        rw [decide_eq_true (by omega), decide_eq_true (by omega), List.all_map]
        rfl
      rw [e] at p
      exact p
  | _ => exact p
/-! ### contents -/
def contOk (x : Purse) : PyData → Bool
  | .int i => decide (0 ≤ i) && decide (i ≤ x.1)
  | _ => false
def isContX (l : List Purse) : PyData → Bool
  | .tuple ds => decide (ds.length = l.length) && (l.zip ds).all fun q => contOk q.1 q.2
  | _ => false
theorem zipD_left {α : Type} (f : α → PyData) : ∀ (l : List α) (r : List PyData), zipD (l.map f) r = (l.zip r).map fun q => .tuple [f q.1, q.2]
  | [], r => rfl
  | a :: l, [] => rfl
  | a :: l, b :: r => by
    show _ :: zipD (l.map f) r = _
    rw [zipD_left f l r]
    rfl
/-! is_content -/
abbrev N_is_content : List Str := ["purses", "thing", "purse", "content"]
def ws_is_content : DS := (dSeq (dIf (dNot (dTru (dOwn 2 V_is_tuple_of (dCons (dVar 1) (dCons (dCall wLen (dCons (dVar 0) dNil)) dNil))))) (dRet (dC (.bool false))) dNext)
  (dRet (dCall wAll (dCons (dLc (dZip (dCons (dVar 0) (dCons (dVar 1) dNil))) (wgTup 2 (wgCons (fun r ρ P => asgD 2 r ρ P) (wgCons (fun r ρ P => asgD 3 r ρ P) wgNil))) dYes (dAndV (dOwn 1 V_is_integer (dCons (dVar 3) dNil)) (dChain wLe wLe (dC (.int 0)) (dVar 3) (dOp wIx (dVar 2) (dC (.int 0))))) [2, 3]) dNil))))
abbrev W_is_content : WF := runD N_is_content ws_is_content
def V_is_content : WF := fun as P => ∃ (l : List Purse) (d : PyData), as = [.dat (pursesD l), .dat d] ∧ l.length ≤ 1000 ∧ P (atom (.bool (isContX l d)))
theorem w_is_content {as : List Sl} {P : DK} (hv : V_is_content as P) : W_is_content as P := by
  obtain ⟨l, d, rfl, few, p⟩ := hv
  refine ⟨rfl, d, _, rfl, ?_⟩
  cases d with
  | tuple ds =>
    refine iteN (fun h => ?_) (fun h => ?_)
    · refine ⟨rfl, rfl, rfl, ?_⟩
      rw [zipD_left]
      refine lc_map (fun q : Purse × PyData => .tuple [purseD q.1, q.2]) (fun q => .bool (contOk q.1 q.2)) (l.zip ds) (by rw [List.length_zip]; omega) (fun q _ acc k' few' nx => ?_) ?_
      · refine ⟨rfl, rfl, rfl, rfl, rfl, rfl, _, rfl, ?_⟩
        obtain ⟨x, d⟩ := q
        cases d with
        | int i =>
          refine iteD (fun h0 => ?_) (fun h0 => ?_)
          · have e : contOk x (.int i) = decide (i ≤ x.1) := by
              show (decide (0 ≤ i) && decide (i ≤ x.1)) = _
              rw [decide_eq_true h0, Bool.true_and]
            rw [e] at nx
            exact ⟨_, rfl, rfl, few', nx⟩
          · have e : contOk x (.int i) = false := by
              show (decide (0 ≤ i) && decide (i ≤ x.1)) = _
              rw [decide_eq_false h0, Bool.false_and]
            rw [e] at nx
            exact ⟨rfl, few', nx⟩
        | _ => exact ⟨rfl, few', nx⟩
      · refine ⟨_, boolsOf_map (f := fun q : Purse × PyData => contOk q.1 q.2) (fun _ => rfl) _, ?_⟩
        have e : isContX l (.tuple ds) = ((l.zip ds).map fun q : Purse × PyData => contOk q.1 q.2).all _root_.id := by
          show (decide (ds.length = l.length) && (l.zip ds).all fun q => contOk q.1 q.2) = _
          rw [decide_eq_true (by rw [h, List.length_map]), List.all_map, Bool.true_and]
          rfl
        rw [e] at p
        exact p
    · have e : isContX l (.tuple ds) = false := by
        show (decide (ds.length = l.length) && (l.zip ds).all fun q => contOk q.1 q.2) = _
        rw [decide_eq_false (fun z => h (by rw [z, List.length_map])), Bool.false_and]
      rw [e] at p
      exact p
  | _ => exact p
/-! ### states of any value -/
def isStateX (h : Hall) : PyData → Bool
  | .tuple [.str x, .tuple rows] => decide (x ∈ namesH h) && (decide (rows.length = h.ms.length) && (h.ms.zip rows).all fun q => isContX q.1.2.2 q.2)
  | _ => false
/-! is_state -/
abbrev N_is_state : List Str := ["hall", "thing", "name", "contents", "row", "_", "purses"]
def ws_is_state : DS := (dSeq (dIf (dNot (dTru (dOwn 2 V_is_tuple_of (dCons (dVar 1) (dCons (dC (.int 2)) dNil))))) (dRet (dC (.bool false))) dNext)
  (dSeq (dAsg (dVar 1) (wgTup 2 (wgCons (fun r ρ P => asgD 2 r ρ P) (wgCons (fun r ρ P => asgD 3 r ρ P) wgNil))))
  (dSeq (dIf (dOr (dNot (dTru (dOwn 1 V_is_name (dCons (dVar 2) dNil)))) (dOr (dTest (dOp (wIn true) (dVar 2) (dOwn 1 V_names_of (dCons (dVar 0) dNil)))) (dNot (dTru (dOwn 2 V_is_tuple_of (dCons (dVar 3) (dCons (dCall wLen (dCons (dOp wIx (dVar 0) (dC (.int 0))) dNil)) dNil))))))) (dRet (dC (.bool false))) dNext)
  (dRet (dCall wAll (dCons (dLc (dZip (dCons (dOp wIx (dVar 0) (dC (.int 0))) (dCons (dVar 3) dNil))) (wgTup 2 (wgCons (wgTup 3 (wgCons (fun r ρ P => asgD 5 r ρ P) (wgCons (fun r ρ P => asgD 5 r ρ P) (wgCons (fun r ρ P => asgD 6 r ρ P) wgNil)))) (wgCons (fun r ρ P => asgD 4 r ρ P) wgNil))) dYes (dOwn 2 V_is_content (dCons (dVar 6) (dCons (dVar 4) dNil))) [5, 6, 4]) dNil))))))
abbrev W_is_state : WF := runD N_is_state ws_is_state
def V_is_state : WF := fun as P => ∃ (h : Hall) (d : PyData), as = [.dat (hallD h), .dat d] ∧ Few h ∧ (∀ x ∈ namesH h, isNameX (.str x) = true) ∧ txt d = true ∧ P (atom (.bool (isStateX h d)))
theorem txt_str {z : Str} (h : txt (.str z) = true) : z.length ≤ 1000000 := by
  simp only [txt, Bool.and_eq_true] at h
  exact of_decide_eq_true h.1
theorem w_is_state {as : List Sl} {P : DK} (hv : V_is_state as P) : W_is_state as P := by
  obtain ⟨h, d, rfl, few, nms, tx, p⟩ := hv
  refine ⟨rfl, d, 2, rfl, ?_⟩
  match d, tx, p with
  | .tuple [a, b], tx, p =>
    have ta : ∀ z, a = .str z → z.length ≤ 1000000 := fun z e => by
      subst e
      simp only [txt, txts, Bool.and_eq_true] at tx
      exact of_decide_eq_true tx.1.1
    refine ⟨rfl, rfl, rfl, rfl, rfl, rfl, a, rfl, ta, ?_⟩
    cases a with
    | str x =>
      cases hn : isNameX (.str x) with
      | false =>
        have nm : x ∉ namesH h := fun m => by rw [nms x m] at hn; cases hn
        have e : isStateX h (.tuple [.str x, b]) = false := by
          cases b with
          | tuple rows =>
            show (decide (x ∈ namesH h) && _) = false
            rw [decide_eq_false nm, Bool.false_and]
          | _ => rfl
        rw [e] at p
        exact p
      | true =>
        refine ⟨rfl, h, rfl, few.1, rfl, flat_strs _, ?_⟩
        show (if (!inX (.str x) (strsD (namesH h))) = true then _ else _)
        rw [inX_strs]
        refine iteN (fun m => ?_) (fun m => ?_)
        · refine ⟨_, rfl, rfl, b, _, rfl, ?_⟩
          cases b with
          | tuple rows =>
            refine iteN (fun len => ?_) (fun len => ?_)
            · rw [List.length_map] at len
              refine ⟨_, rfl, rfl, rfl, rfl, ?_⟩
              rw [zipD_left]
              refine lc_map (fun q : Mach × PyData => .tuple [machD q.1, q.2]) (fun q => .bool (isContX q.1.2.2 q.2)) (h.ms.zip rows) (by rw [List.length_zip]; have := few.1; omega) (fun q mq acc k' few' nx => ?_) ?_
              · exact ⟨rfl, rfl, rfl, rfl, rfl, rfl, rfl, rfl, rfl, rfl, rfl, q.1.2.2, q.2, rfl, few.2.2 _ (List.of_mem_zip mq).1, rfl, few', nx⟩
              · refine ⟨_, boolsOf_map (f := fun q : Mach × PyData => isContX q.1.2.2 q.2) (fun _ => rfl) _, ?_⟩
                have e : isStateX h (.tuple [.str x, .tuple rows]) = ((h.ms.zip rows).map fun q : Mach × PyData => isContX q.1.2.2 q.2).all _root_.id := by
                  show (decide (x ∈ namesH h) && (decide (rows.length = h.ms.length) && (h.ms.zip rows).all fun q => isContX q.1.2.2 q.2)) = _
                  rw [decide_eq_true m, decide_eq_true len, List.all_map, Bool.true_and, Bool.true_and]
                  rfl
                rw [e] at p
                exact p
            · rw [List.length_map] at len
              have e : isStateX h (.tuple [.str x, .tuple rows]) = false := by
                show (decide (x ∈ namesH h) && (decide (rows.length = h.ms.length) && _)) = false
                rw [decide_eq_false len, Bool.false_and, Bool.and_false]
              rw [e] at p
              exact p
          | _ => exact p
        · have e : isStateX h (.tuple [.str x, b]) = false := by
            cases b with
            | tuple rows =>
              show (decide (x ∈ namesH h) && _) = false
              rw [decide_eq_false m, Bool.false_and]
            | _ => rfl
          rw [e] at p
          exact p
    | _ => exact p
  | .tuple [], _, p => exact p
  | .tuple [a], _, p =>
    have e : isStateX h (.tuple [a]) = false := by cases a <;> rfl
    rw [e] at p
    exact p
  | .tuple (a :: b :: c :: r), _, p =>
    have e : isStateX h (.tuple (a :: b :: c :: r)) = false := by cases a <;> first | rfl | (cases b <;> rfl)
    rw [e] at p
    have e2 : isTup 2 (.tuple (a :: b :: c :: r)) = false := by
      show decide ((a :: b :: c :: r).length = 2) = false
      exact decide_eq_false (by show ¬ r.length + 1 + 1 + 1 = 2; omega)
    rw [e2]
    exact p
  | .none, _, p => exact p
  | .bool _, _, p => exact p
  | .int _, _, p => exact p
  | .str _, _, p => exact p
  | .list _, _, p => exact p
  | .dict _, _, p => exact p
/-! _law_is_state -/
abbrev N__law_is_state : List Str := ["hall", "thing", "row", "name", "time", "purses", "held", "size", "back"]
def ws__law_is_state : DS := (dSeq (dIf (dOr (dNot (dTru (dIsi (isTyX "tuple") (dVar 1)))) (dOr (dTest (dOp wNe (dCall wLen (dCons (dVar 1) dNil)) (dC (.int 2)))) (dOr (dNot (dTru (dIsi (isTyX "str") (dOp wIx (dVar 1) (dC (.int 0)))))) (dTest (dOp (wIn true) (dOp wIx (dVar 1) (dC (.int 0))) (dOwn 1 V__law_names (dCons (dVar 0) dNil))))))) (dRet (dC (.bool false))) dNext)
  (dSeq (dIf (dOr (dNot (dTru (dIsi (isTyX "tuple") (dOp wIx (dVar 1) (dC (.int 1)))))) (dTest (dOp wNe (dCall wLen (dCons (dOp wIx (dVar 1) (dC (.int 1))) dNil)) (dCall wLen (dCons (dOp wIx (dVar 0) (dC (.int 0))) dNil))))) (dRet (dC (.bool false))) dNext)
  (dSeq (dFor (dZip (dCons (dOp wIx (dVar 0) (dC (.int 0))) (dCons (dOp wIx (dVar 1) (dC (.int 1))) dNil))) (wgTup 2 (wgCons (wgTup 3 (wgCons (fun r ρ P => asgD 3 r ρ P) (wgCons (fun r ρ P => asgD 4 r ρ P) (wgCons (fun r ρ P => asgD 5 r ρ P) wgNil)))) (wgCons (fun r ρ P => asgD 2 r ρ P) wgNil)))
  (dSeq (dIf (dOr (dNot (dTru (dIsi (isTyX "tuple") (dVar 2)))) (dTest (dOp wNe (dCall wLen (dCons (dVar 2) dNil)) (dCall wLen (dCons (dVar 5) dNil))))) (dRet (dC (.bool false))) dNext)
  (dIf (dTest (dOp wNe (dLc (dZip (dCons (dVar 5) (dCons (dVar 2) dNil))) (wgTup 2 (wgCons (wgTup 2 (wgCons (fun r ρ P => asgD 7 r ρ P) (wgCons (fun r ρ P => asgD 8 r ρ P) wgNil))) (wgCons (fun r ρ P => asgD 6 r ρ P) wgNil))) (dOr (dNot (dTru (dOwn 1 V__law_is_int (dCons (dVar 6) dNil)))) (dNot (dTest (dChain wLe wLe (dC (.int 0)) (dVar 6) (dVar 7))))) (dC (.int 1)) [7, 8, 6]) (dLst dNil))) (dRet (dC (.bool false))) dNext)))
  (dRet (dC (.bool true))))))
abbrev W__law_is_state : WF := runD N__law_is_state ws__law_is_state
def noCont (q : Purse × PyData) : Option Unit := if contOk q.1 q.2 = true then none else some ()
def ones (l : List Unit) : List PyData := l.map fun _ => .int 1
theorem canLay_ones : ∀ l : List Unit, PyData.canLayAll0 (ones l) = true
  | [] => rfl
  | _ :: l => canLay_ones l
theorem depth_ones : ∀ l : List Unit, PyData.depthAll (ones l) = 0
  | [] => rfl
  | _ :: l => by
    show max 0 (PyData.depthAll (ones l)) = 0
    rw [depth_ones l]
    rfl
theorem shaped_ones (l : List Unit) : SeqAt.shaped (.list (ones l)) = true := by
  show (PyData.canLayAll0 (ones l) && decide (PyData.depthAll (ones l) + 1 ≤ 64)) = true
  rw [canLay_ones, depth_ones]
  rfl
theorem eqv_ones (l : List Unit) : PyData.eqv (.list (ones l)) (.list []) = l.isEmpty := by cases l <;> rfl
theorem noCont_all (l : List (Purse × PyData)) : (l.filterMap noCont).isEmpty = l.all fun q => contOk q.1 q.2 := by
  induction l with
  | nil => rfl
  | cons q l ih =>
    rw [List.all_cons, List.filterMap_cons]
    unfold noCont at ih ⊢
    cases contOk q.1 q.2 with
    | true => simpa using ih
    | false => simp
def V__law_is_state : WF := fun as P => ∃ (h : Hall) (d : PyData), as = [.dat (hallD h), .dat d] ∧ Few h ∧ P (atom (.bool (isStateX h d)))
theorem w__law_is_state {as : List Sl} {P : DK} (hv : V__law_is_state as P) : W__law_is_state as P := by
  obtain ⟨h, d, rfl, few, p⟩ := hv
  match d, p with
  | .tuple [a, b], p =>
    refine ⟨a, rfl, ?_⟩
    cases a with
    | str x =>
      refine ⟨.str x, rfl, rfl, h, rfl, few.1, rfl, flat_strs _, ?_⟩
      show (if (!inX (.str x) (strsD (namesH h))) = true then _ else _)
      rw [inX_strs]
      refine iteN (fun m => ?_) (fun m => ?_)
      · refine ⟨b, rfl, ?_⟩
        cases b with
        | tuple rows =>
          refine ⟨.tuple rows, rfl, _, rfl, ?_⟩
          refine iteN (fun len => ?_) (fun len => ?_)
          · rw [List.length_map] at len
            have len' : rows.length = h.ms.length := by omega
            have fin : (((h.ms.zip rows).all fun q : Mach × PyData => isContX q.1.2.2 q.2) = false) → P (atom (.bool false)) := fun no => by
              have e : isStateX h (.tuple [.str x, .tuple rows]) = false := by
                show (decide (x ∈ namesH h) && (decide (rows.length = h.ms.length) && (h.ms.zip rows).all fun q => isContX q.1.2.2 q.2)) = false
                rw [no, Bool.and_false, Bool.and_false]
              rw [e] at p
              exact p
            refine ⟨_, rfl, _, rfl, rfl, rfl, rfl, ?_⟩
            rw [zipD_left]
            refine for_gen (fun q : Mach × PyData => .tuple [machD q.1, q.2]) (fun done ρ => ∃ s2 s3 s4 s5, ρ = [.dat (hallD h), .dat (.tuple [.str x, .tuple rows]), s2, s3, s4, s5, .un, .un, .un] ∧ (done.all fun q : Mach × PyData => isContX q.1.2.2 q.2) = true) (h.ms.zip rows) _ ⟨_, _, _, _, rfl, rfl⟩ ?_ ?_
            · rintro done q rest _ C e ⟨s2, s3, s4, s5, rfl, ok⟩ next
              have mq : q ∈ h.ms.zip rows := by rw [e]; exact List.mem_append_right _ (.head _)
              have fewP := few.2.2 _ (List.of_mem_zip mq).1
              have bad : isContX q.1.2.2 q.2 = false → P (atom (.bool false)) := fun no => fin (by
                rw [e, List.all_append, List.all_cons, no, Bool.false_and, Bool.and_false])
              obtain ⟨⟨nm, tm, ps⟩, d⟩ := q
              have fewP : ps.length ≤ 1000 := fewP
              refine ⟨rfl, rfl, rfl, rfl, rfl, rfl, rfl, rfl, rfl, rfl, ?_⟩
              cases d with
              | tuple ds =>
                refine iteN (fun l2 => ?_) (fun l2 => ?_)
                · rw [List.length_map] at l2
                  have l2' : ds.length = ps.length := by
                    have : ((ds.length : Nat) : Int) = (ps.length : Nat) := l2
                    omega
                  refine ⟨rfl, rfl, rfl, ?_⟩
                  rw [zipD_left]
                  refine lc_gen (fun q : Purse × PyData => .tuple [purseD q.1, q.2]) (fun q => (noCont q).map fun _ => .int 1) (ps.zip ds) [] (by rw [List.length_zip]; simp; omega) (fun z _ acc k' few' nx => ?_) ?_
                  · obtain ⟨y, dz⟩ := z
                    have add : contOk y dz = false → k' (acc ++ [.int 1]) := fun no => by
                      have e : noCont (y, dz) = some () := by unfold noCont; rw [no]; rfl
                      rw [e] at nx
                      exact nx
                    have go : contOk y dz = true → k' acc := fun yes => by
                      have e : noCont (y, dz) = none := by unfold noCont; rw [yes]; rfl
                      rw [e] at nx
                      rw [← List.append_nil acc]
                      exact nx
                    refine ⟨rfl, rfl, rfl, rfl, rfl, rfl, rfl, rfl, rfl, rfl, dz, rfl, ?_⟩
                    cases dz with
                    | int i =>
                      refine iteD (fun h0 => ?_) (fun h0 => ?_)
                      · have e : contOk y (.int i) = decide (i ≤ y.1) := by
                          show (decide (0 ≤ i) && decide (i ≤ y.1)) = _
                          rw [decide_eq_true h0, Bool.true_and]
                        refine iteN (fun h1 => go (by rw [e, decide_eq_true h1])) (fun h1 => ⟨rfl, few', add (by rw [e, decide_eq_false h1])⟩)
                      · have e : contOk y (.int i) = false := by
                          show (decide (0 ≤ i) && decide (i ≤ y.1)) = _
                          rw [decide_eq_false h0, Bool.false_and]
                        exact ⟨rfl, few', add e⟩
                    | _ => exact ⟨rfl, few', add rfl⟩
                  · have eo : (ps.zip ds).filterMap (fun q => (noCont q).map fun _ => PyData.int 1) = ones ((ps.zip ds).filterMap noCont) := filter_map_map noCont (fun _ => .int 1) _
                    rw [eo, List.nil_append]
                    refine ⟨leb rfl, shaped_ones _, rfl, ?_⟩
                    show (if (!PyData.eqv (.list (ones ((ps.zip ds).filterMap noCont))) (.list [])) = true then _ else _)
                    rw [eqv_ones, noCont_all]
                    have e2 : isContX ps (.tuple ds) = (ps.zip ds).all fun q => contOk q.1 q.2 := by
                      show (decide (ds.length = ps.length) && _) = _
                      rw [decide_eq_true l2', Bool.true_and]
                    rw [← e2]
                    cases ec : isContX ps (.tuple ds) with
                    | true =>
                      refine next _ ⟨_, _, _, _, rfl, ?_⟩
                      rw [List.all_append, ok, List.all_cons, ec]
                      rfl
                    | false => exact bad ec
                · rw [List.length_map] at l2
                  refine bad ?_
                  show (decide (ds.length = ps.length) && _) = false
                  rw [decide_eq_false (fun z => l2 (by show ((ds.length : Nat) : Int) = (ps.length : Nat); omega)), Bool.false_and]
              | _ => exact bad rfl
            · rintro _ ⟨s2, s3, s4, s5, rfl, ok⟩
              have e : isStateX h (.tuple [.str x, .tuple rows]) = true := by
                show (decide (x ∈ namesH h) && (decide (rows.length = h.ms.length) && (h.ms.zip rows).all fun q => isContX q.1.2.2 q.2)) = true
                rw [decide_eq_true m, decide_eq_true len', ok]
                rfl
              rw [e] at p
              exact p
          · rw [List.length_map] at len
            have e : isStateX h (.tuple [.str x, .tuple rows]) = false := by
              show (decide (x ∈ namesH h) && (decide (rows.length = h.ms.length) && _)) = false
              rw [decide_eq_false (p := rows.length = h.ms.length) (by omega), Bool.false_and, Bool.and_false]
            rw [e] at p
            exact p
        | _ => exact p
      · have e : isStateX h (.tuple [.str x, b]) = false := by
          cases b with
          | tuple rows =>
            show (decide (x ∈ namesH h) && _) = false
            rw [decide_eq_false m, Bool.false_and]
          | _ => rfl
        rw [e] at p
        exact p
    | _ => exact p
  | .tuple [], p => exact p
  | .tuple [a], p =>
    have e : isStateX h (.tuple [a]) = false := by cases a <;> rfl
    rw [e] at p
    exact p
  | .tuple (a :: b :: c :: r), p =>
    have e : isStateX h (.tuple (a :: b :: c :: r)) = false := by cases a <;> first | rfl | (cases b <;> rfl)
    rw [e] at p
    exact p
  | .none, p => exact p
  | .bool _, p => exact p
  | .int _, p => exact p
  | .str _, p => exact p
  | .list _, p => exact p
  | .dict _, p => exact p
end Cm

namespace Cm
open PySem PySem.Spec PyProof.Rows L2 Vd Pd
/-! C7: what is behind an ARC -/
def RowOk (l : List Purse) (r : List Int) : Prop := r.length = l.length ∧ ∀ q ∈ l.zip r, 0 ≤ q.2 ∧ q.2 ≤ q.1.1
def RowsOk (h : Hall) (rows : List (List Int)) : Prop := rows.length = h.ms.length ∧ ∀ q ∈ h.ms.zip rows, RowOk q.1.2.2 q.2
def giveB (x : Str) (a : Arc) (m : Mach) : Bool := decide (m.1 = x) && a.ends
def newRow (h : Hall) (x : Str) (a : Arc) (m : Mach) (r : List Int) : List Int := (m.2.2.zip r).map fun z => grownN z.1 (if giveB x a m = true then 0 else z.2) (growH h a)
def newRows (h : Hall) (x : Str) (a : Arc) (l : List (Mach × List Int)) : List (List Int) := l.map fun q => newRow h x a q.1 q.2
def ticksOf (x : Str) (a : Arc) (l : List (Mach × List Int)) : Int := l.foldl (fun t q => if giveB x a q.1 = true then q.1.2.1 + q.2.sum else t) 0
def behindD (h : Hall) (x : Str) (rows : List (List Int)) (a : Arc) : PyData := .tuple [stD (endH h a) (newRows h x a (h.ms.zip rows)), .int (ticksOf x a (h.ms.zip rows))]
theorem zipD_both {α β : Type} (f : α → PyData) (g : β → PyData) : ∀ (l : List α) (r : List β), zipD (l.map f) (r.map g) = (l.zip r).map fun q => .tuple [f q.1, g q.2]
  | [], r => rfl
  | a :: l, [] => rfl
  | a :: l, b :: r => by
    show _ :: zipD (l.map f) (r.map g) = _
    rw [zipD_both f g l r]
    rfl
theorem ticks_snoc (x : Str) (a : Arc) (l : List (Mach × List Int)) (q : Mach × List Int) : ticksOf x a (l ++ [q]) = if giveB x a q.1 = true then q.1.2.1 + q.2.sum else ticksOf x a l := by
  unfold ticksOf
  rw [List.foldl_append]
  rfl
theorem grow_low {h : Hall} {most : Int} {many : Nat} (ok : HOk most many h) {a : Arc} (ao : ArcOk h a) : 0 ≤ growH h a ∧ growH h a ≤ 5 := by
  have at_ : ∀ j, j < h.bs.length → beltAt h j ∈ h.bs := fun j lt => by
    unfold beltAt
    rw [List.getD_eq_getElem?_getD, List.getElem?_eq_getElem lt]
    exact List.getElem_mem lt
  cases a with
  | next x => exact ⟨by show (0 : Int) ≤ 1; decide, by show (1 : Int) ≤ 5; decide⟩
  | down j =>
    obtain ⟨_, _, _, a4, a5, a6, a7⟩ := ok.bs _ (at_ j ao)
    exact ⟨a6, by show (beltAt h j).2.2.2 ≤ 5; omega⟩
  | up j =>
    obtain ⟨_, _, _, a4, a5, a6, a7⟩ := ok.bs _ (at_ j ao)
    exact ⟨by show 0 ≤ (beltAt h j).2.2.1 - (beltAt h j).2.2.2; omega, by show (beltAt h j).2.2.1 - (beltAt h j).2.2.2 ≤ 5; omega⟩
/-! behind -/
abbrev N_behind : List Str := ["hall", "state", "arc", "name", "contents", "growth", "ticks", "later", "row", "gives", "one", "time", "purses", "purse", "content"]
def ws_behind : DS := (dSeq (dAsg (dVar 1) (wgTup 2 (wgCons (fun r ρ P => asgD 3 r ρ P) (wgCons (fun r ρ P => asgD 4 r ρ P) wgNil))))
  (dSeq (dSetD 5 (dOwn 2 V_growth_of (dCons (dVar 0) (dCons (dVar 2) dNil))))
  (dSeq (dSetD 6 (dC (.int 0)))
  (dSeq (dSetO 7 (dLst dNil))
  (dSeq (dFor (dZip (dCons (dOp wIx (dVar 0) (dC (.int 0))) (dCons (dVar 4) dNil))) (wgTup 2 (wgCons (wgTup 3 (wgCons (fun r ρ P => asgD 10 r ρ P) (wgCons (fun r ρ P => asgD 11 r ρ P) (wgCons (fun r ρ P => asgD 12 r ρ P) wgNil)))) (wgCons (fun r ρ P => asgD 8 r ρ P) wgNil)))
  (dSeq (dSetD 9 (dAndV (dOp wEq (dVar 10) (dVar 3)) (dOwn 1 V_does_end (dCons (dVar 2) dNil))))
  (dSeq (dIf (dTru (dVar 9)) (dSetD 6 (dOp wAdd (dVar 11) (dCall wSum (dCons (dVar 8) dNil)))) dNext)
  (dApp 7 (dCall wTuple (dCons (dLc (dZip (dCons (dVar 12) (dCons (dVar 8) dNil))) (wgTup 2 (wgCons (fun r ρ P => asgD 13 r ρ P) (wgCons (fun r ρ P => asgD 14 r ρ P) wgNil))) dYes (dOwn 3 V_grown (dCons (dVar 13) (dCons (dIfE (dTru (dVar 9)) (dC (.int 0)) (dVar 14)) (dCons (dVar 5) dNil)))) [13, 14]) dNil))))))
  (dRet (dTup (dCons (dTup (dCons (dOwn 2 V_end_of (dCons (dVar 0) (dCons (dVar 2) dNil))) (dCons (dCall wTuple (dCons (dVar 7) dNil)) dNil))) (dCons (dVar 6) dNil)))))))))
abbrev W_behind : WF := runD N_behind ws_behind
abbrev behindApp : DS := dApp 7 (dCall wTuple (dCons (dLc (dZip (dCons (dVar 12) (dCons (dVar 8) dNil))) (wgTup 2 (wgCons (fun r ρ P => asgD 13 r ρ P) (wgCons (fun r ρ P => asgD 14 r ρ P) wgNil))) dYes (dOwn 3 V_grown (dCons (dVar 13) (dCons (dIfE (dTru (dVar 9)) (dC (.int 0)) (dVar 14)) (dCons (dVar 5) dNil)))) [13, 14]) dNil))
theorem behind_app {h : Hall} {x : Str} {a : Arc} {m : Mach} {r : List Int} {b : Bool} {ds : List PyData} {De : DEnds} {s0 s1 s2 s3 s4 s6 s10 s11 : Sl} (hb : b = giveB x a m) (lo : 0 ≤ growH h a) (hi : growH h a ≤ 5) (fewP : m.2.2.length ≤ 1000) (few : ds.length < 1000000)
    (next : De.nx [s0, s1, s2, s3, s4, .dat (.int (growH h a)), s6, .own (.list (ds ++ [rowD (newRow h x a m r)])), .dat (rowD r), .dat (.bool b), s10, s11, .dat (pursesD m.2.2), .un, .un]) :
    behindApp De [s0, s1, s2, s3, s4, .dat (.int (growH h a)), s6, .own (.list ds), .dat (rowD r), .dat (.bool b), s10, s11, .dat (pursesD m.2.2), .un, .un] := by
  subst hb
  refine ⟨rfl, rfl, rfl, ?_⟩
  rw [zipD_both]
  refine lc_map (fun q : Purse × Int => .tuple [purseD q.1, .int q.2]) (fun z => .int (grownN z.1 (if giveB x a m = true then 0 else z.2) (growH h a))) (m.2.2.zip r) (by rw [List.length_zip]; omega) (fun z _ acc k' few' nx => ?_) ?_
  · refine ⟨rfl, rfl, rfl, rfl, rfl, ?_⟩
    cases hg : giveB x a m with
    | true =>
      rw [hg] at nx
      exact ⟨rfl, z.1, 0, growH h a, rfl, by omega, rfl, few', nx⟩
    | false =>
      rw [hg] at nx
      exact ⟨rfl, z.1, z.2, growH h a, rfl, by omega, rfl, few', nx⟩
  · refine ⟨rfl, few, ?_⟩
    have e : ((m.2.2.zip r).map fun z => PyData.int (grownN z.1 (if giveB x a m = true then 0 else z.2) (growH h a))) = (newRow h x a m r).map PyData.int := by
      unfold newRow
      rw [List.map_map]
      rfl
    rw [e]
    exact next
def V_behind : WF := fun as P => ∃ (h : Hall) (x : Str) (rows : List (List Int)) (a : Arc), as = [.dat (hallD h), .dat (stD x rows), .dat (arcD a)] ∧ Few h ∧ ArcOk h a ∧ 0 ≤ growH h a ∧ growH h a ≤ 5 ∧ P (.d (behindD h x rows a) .gd)
theorem w_behind {as : List Sl} {P : DK} (hv : V_behind as P) : W_behind as P := by
  obtain ⟨h, x, rows, a, rfl, few, ao, lo, hi, p⟩ := hv
  refine ⟨rfl, rfl, rfl, rfl, rfl, rfl, h, a, rfl, ao, rfl, rfl, leb rfl, _, rfl, rfl, rfl, rfl, ?_⟩
  rw [zipD_both]
  refine for_gen (fun q : Mach × List Int => .tuple [machD q.1, rowD q.2]) (fun done ρ => ∃ F s8 s9 s10 s11 s12, ρ = [.dat (hallD h), .dat (stD x rows), .dat (arcD a), .dat (.str x), .dat (.tuple (rows.map rowD)), .dat (.int (growH h a)), .dat (.int (ticksOf x a done)), .own (.list F), s8, s9, s10, s11, s12, .un, .un] ∧ F = (newRows h x a done).map rowD) (h.ms.zip rows) _ ⟨_, _, _, _, _, _, rfl, rfl⟩ ?_ ?_
  · rintro done q rest _ C e ⟨F, s8, s9, s10, s11, s12, rfl, eF⟩ next
    have mq : q ∈ h.ms.zip rows := by rw [e]; exact List.mem_append_right _ (.head _)
    have fewP := few.2.2 _ (List.of_mem_zip mq).1
    have lF : F.length < 1000000 := by
      rw [eF, List.length_map]
      unfold newRows
      rw [List.length_map]
      have := congrArg List.length e
      rw [List.length_zip, List.length_append, List.length_cons] at this
      have := few.1
      omega
    have eN : F ++ [rowD (newRow h x a q.1 q.2)] = (newRows h x a (done ++ [q])).map rowD := by
      rw [eF]
      unfold newRows
      rw [List.map_append, List.map_append]
      rfl
    have eT := ticks_snoc x a done q
    have nx := next [.dat (hallD h), .dat (stD x rows), .dat (arcD a), .dat (.str x), .dat (.tuple (rows.map rowD)), .dat (.int (growH h a)), .dat (.int (ticksOf x a (done ++ [q]))), .own (.list (F ++ [rowD (newRow h x a q.1 q.2)])), .dat (rowD q.2), .dat (.bool (giveB x a q.1)), .dat (.str q.1.1), .dat (.int q.1.2.1), .dat (pursesD q.1.2.2), .un, .un] ⟨_, _, _, _, _, _, rfl, eN⟩
    rw [eT] at nx
    refine ⟨rfl, rfl, rfl, rfl, rfl, rfl, rfl, rfl, rfl, rfl, ?_⟩
    refine iteD (fun hc => ?_) (fun hc => ?_)
    · refine ⟨rfl, a, rfl, rfl, ?_⟩
      have eg : giveB x a q.1 = a.ends := by unfold giveB; rw [decide_eq_true hc, Bool.true_and]
      cases ha : a.ends with
      | true =>
        have g : giveB x a q.1 = true := eg.trans ha
        refine ⟨_, intsOf_map (f := _root_.id) (fun _ => rfl) _, rfl, ?_⟩
        rw [List.map_id]
        rw [if_pos g] at nx
        rw [g] at nx
        exact behind_app (h := h) (x := x) (a := a) (m := q.1) (r := q.2) g.symm lo hi fewP lF nx
      | false =>
        have g : giveB x a q.1 = false := eg.trans ha
        rw [if_neg (by rw [g]; decide)] at nx
        rw [g] at nx
        exact behind_app (h := h) (x := x) (a := a) (m := q.1) (r := q.2) g.symm lo hi fewP lF nx
    · have g : giveB x a q.1 = false := by unfold giveB; rw [decide_eq_false hc, Bool.false_and]
      rw [if_neg (by rw [g]; decide)] at nx
      rw [g] at nx
      exact ⟨rfl, behind_app (h := h) (x := x) (a := a) (m := q.1) (r := q.2) g.symm lo hi fewP lF nx⟩
  · rintro _ ⟨F, s8, s9, s10, s11, s12, rfl, eF⟩
    refine ⟨rfl, h, a, rfl, ao, leb rfl, leb rfl, ?_⟩
    rw [eF]
    exact p
end Cm

namespace Cm
open PySem PySem.Spec PyProof.Rows L2 Vd Pd
/-! C8: what is behind an ARC by the law; drawn states -/
theorem arc_at {h : Hall} {b : Belt} {j : Nat} (m : (b, j) ∈ h.bs.zipIdx) : j < h.bs.length ∧ beltAt h j = b := by
  have e : h.bs[j]? = some b := List.mem_zipIdx_iff_getElem?.mp m
  refine ⟨(List.getElem?_eq_some_iff.mp e).1, ?_⟩
  unfold beltAt
  rw [List.getD_eq_getElem?_getD, e]
  rfl
theorem arcsOf_is {h : Hall} {x : Str} {t : ArcT} (m : t ∈ arcsOf h x) (mx : x ∈ namesH h) : ArcOk h t.1 ∧ t.2.1 = endH h t.1 ∧ t.2.2 = growH h t.1 ∧ startH h t.1 = x := by
  unfold arcsOf at m
  rcases List.mem_append.mp m with m | m
  · rcases List.mem_cons.mp m with e | m
    · subst e; exact ⟨mx, rfl, rfl, rfl⟩
    · obtain ⟨⟨b, j⟩, mb, e⟩ := List.mem_filterMap.mp m
      obtain ⟨lt, eb⟩ := arc_at mb
      unfold downOf at e
      split at e
      · rename_i hx
        cases e
        exact ⟨lt, by show b.2.1 = (beltAt h j).2.1; rw [eb], by show b.2.2.2 = (beltAt h j).2.2.2; rw [eb], by show (beltAt h j).1 = x; rw [eb]; exact hx⟩
      · cases e
  · obtain ⟨⟨b, j⟩, mb, e⟩ := List.mem_filterMap.mp m
    obtain ⟨lt, eb⟩ := arc_at mb
    unfold upOf at e
    split at e
    · rename_i hx
      cases e
      exact ⟨lt, by show b.1 = (beltAt h j).1; rw [eb], by show b.2.2.1 - b.2.2.2 = (beltAt h j).2.2.1 - (beltAt h j).2.2.2; rw [eb], by show (beltAt h j).2.1 = x; rw [eb]; exact hx⟩
    · cases e
theorem str_eqv (x y : Str) : PyData.eqv (.str x) (.str y) = decide (x = y) := by
  show (x == y) = decide (x = y)
  by_cases e : x = y
  · subst e; simp
  · rw [decide_eq_false e]
    exact beq_eq_false_iff_ne.mpr e
theorem arc_eqv (b a : Arc) : PyData.eqv (arcD b) (arcD a) = decide (b = a) := by
  have two : ∀ p q r s : PyData, PyData.eqv (.tuple [p, q]) (.tuple [r, s]) = (PyData.eqv p r && PyData.eqv q s) := fun p q r s => by
    simp [PyData.eqv, PyData.eqvAll]
  have nat : ∀ i j : Nat, PyData.eqv (.int (i : Int)) (.int (j : Int)) = decide (i = j) := fun i j => by
    by_cases e : i = j
    · subst e; simp [PyData.eqv]
    · rw [decide_eq_false e]
      show ((i : Int) == (j : Int)) = false
      exact beq_eq_false_iff_ne.mpr (by omega)
  have k : ∀ x y : Str, (x = y) → decide (x = y) = true := fun x y e => decide_eq_true e
  have n1 : decide (("next" : Str) = "down") = false := by decide +kernel
  have n2 : decide (("next" : Str) = "up") = false := by decide +kernel
  have n3 : decide (("down" : Str) = "next") = false := by decide +kernel
  have n4 : decide (("down" : Str) = "up") = false := by decide +kernel
  have n5 : decide (("up" : Str) = "next") = false := by decide +kernel
  have n6 : decide (("up" : Str) = "down") = false := by decide +kernel
  cases b with
  | next x =>
    cases a with
    | next y =>
      show PyData.eqv (.tuple [_, _]) (.tuple [_, _]) = _
      rw [two, str_eqv, str_eqv, k _ _ rfl, Bool.true_and]
      by_cases e : x = y
      · subst e; simp
      · rw [decide_eq_false e, decide_eq_false fun z => e (by injection z)]
    | down j =>
      show PyData.eqv (.tuple [_, _]) (.tuple [_, _]) = _
      rw [two, str_eqv, n1, Bool.false_and, decide_eq_false fun z => by cases z]
    | up j =>
      show PyData.eqv (.tuple [_, _]) (.tuple [_, _]) = _
      rw [two, str_eqv, n2, Bool.false_and, decide_eq_false fun z => by cases z]
  | down i =>
    cases a with
    | next y =>
      show PyData.eqv (.tuple [_, _]) (.tuple [_, _]) = _
      rw [two, str_eqv, n3, Bool.false_and, decide_eq_false fun z => by cases z]
    | down j =>
      show PyData.eqv (.tuple [_, _]) (.tuple [_, _]) = _
      rw [two, str_eqv, nat, k _ _ rfl, Bool.true_and]
      by_cases e : i = j
      · subst e; simp
      · rw [decide_eq_false e, decide_eq_false fun z => e (by injection z)]
    | up j =>
      show PyData.eqv (.tuple [_, _]) (.tuple [_, _]) = _
      rw [two, str_eqv, n4, Bool.false_and, decide_eq_false fun z => by cases z]
  | up i =>
    cases a with
    | next y =>
      show PyData.eqv (.tuple [_, _]) (.tuple [_, _]) = _
      rw [two, str_eqv, n5, Bool.false_and, decide_eq_false fun z => by cases z]
    | down j =>
      show PyData.eqv (.tuple [_, _]) (.tuple [_, _]) = _
      rw [two, str_eqv, n6, Bool.false_and, decide_eq_false fun z => by cases z]
    | up j =>
      show PyData.eqv (.tuple [_, _]) (.tuple [_, _]) = _
      rw [two, str_eqv, nat, k _ _ rfl, Bool.true_and]
      by_cases e : i = j
      · subst e; simp
      · rw [decide_eq_false e, decide_eq_false fun z => e (by injection z)]
theorem shaped_arc {a : Arc} (ok : ∀ x, a = .next x → (PyData.str x).canLay0 = true) : SeqAt.shaped (arcD a) = true := by
  have e1 : (PyData.str "next").canLay0 = true := by decide +kernel
  have e2 : (PyData.str "down").canLay0 = true := by decide +kernel
  have e3 : (PyData.str "up").canLay0 = true := by decide +kernel
  cases a with
  | next x =>
    show (((PyData.str "next").canLay0 && ((PyData.str x).canLay0 && true)) && true) = true
    rw [ok x rfl, e1]
    rfl
  | down j =>
    show (((PyData.str "down").canLay0 && (true && true)) && true) = true
    rw [e2]
    rfl
  | up j =>
    show (((PyData.str "up").canLay0 && (true && true)) && true) = true
    rw [e3]
    rfl
/-! ### behind, by the law -/
/-! _law_behind -/
abbrev N__law_behind : List Str := ["hall", "state", "arc", "name", "contents", "end", "growth", "one", "ticks", "found", "row", "other", "time", "purses", "held", "size", "back"]
def ws__law_behind : DS := (dSeq (dAsg (dVar 1) (wgTup 2 (wgCons (fun r ρ P => asgD 3 r ρ P) (wgCons (fun r ρ P => asgD 4 r ρ P) wgNil))))
  (dSeq (dAsg (dOp wIx (dLc (dIter (dOwn 2 V__law_arcs (dCons (dVar 0) (dCons (dVar 3) dNil)))) (wgTup 3 (wgCons (fun r ρ P => asgD 7 r ρ P) (wgCons (fun r ρ P => asgD 5 r ρ P) (wgCons (fun r ρ P => asgD 6 r ρ P) wgNil)))) (dTest (dOp wEq (dVar 7) (dVar 2))) (dTup (dCons (dVar 5) (dCons (dVar 6) dNil))) [7, 5, 6]) (dC (.int 0))) (wgTup 2 (wgCons (fun r ρ P => asgD 5 r ρ P) (wgCons (fun r ρ P => asgD 6 r ρ P) wgNil))))
  (dSeq (dPar (parDO 8 9) (dCons (dC (.int 0)) (dCons (dLst dNil) dNil)))
  (dSeq (dFor (dZip (dCons (dOp wIx (dVar 0) (dC (.int 0))) (dCons (dVar 4) dNil))) (wgTup 2 (wgCons (wgTup 3 (wgCons (fun r ρ P => asgD 11 r ρ P) (wgCons (fun r ρ P => asgD 12 r ρ P) (wgCons (fun r ρ P => asgD 13 r ρ P) wgNil)))) (wgCons (fun r ρ P => asgD 10 r ρ P) wgNil)))
  (dSeq (dIf (dAnd (dTest (dOp wEq (dVar 11) (dVar 3))) (dTest (dOp wNe (dOp wIx (dVar 2) (dC (.int 0))) (dC (.str "up"))))) (dPar (parDD 8 10) (dCons (dOp wAdd (dVar 12) (dCall wSum (dCons (dVar 10) dNil))) (dCons (dOp wMul (dTup (dCons (dC (.int 0)) dNil)) (dCall wLen (dCons (dVar 10) dNil))) dNil))) dNext)
  (dApp 9 (dCall wTuple (dCons (dLc (dZip (dCons (dVar 13) (dCons (dVar 10) dNil))) (wgTup 2 (wgCons (wgTup 2 (wgCons (fun r ρ P => asgD 15 r ρ P) (wgCons (fun r ρ P => asgD 16 r ρ P) wgNil))) (wgCons (fun r ρ P => asgD 14 r ρ P) wgNil))) dYes (dCall wMin2 (dCons (dVar 15) (dCons (dOp wAdd (dVar 14) (dOp wMul (dVar 16) (dVar 6))) dNil))) [15, 16, 14]) dNil)))))
  (dRet (dTup (dCons (dTup (dCons (dVar 5) (dCons (dCall wTuple (dCons (dVar 9) dNil)) dNil))) (dCons (dVar 8) dNil))))))))
abbrev W__law_behind : WF := runD N__law_behind ws__law_behind
abbrev lawApp : DS := dApp 9 (dCall wTuple (dCons (dLc (dZip (dCons (dVar 13) (dCons (dVar 10) dNil))) (wgTup 2 (wgCons (wgTup 2 (wgCons (fun r ρ P => asgD 15 r ρ P) (wgCons (fun r ρ P => asgD 16 r ρ P) wgNil))) (wgCons (fun r ρ P => asgD 14 r ρ P) wgNil))) dYes (dCall wMin2 (dCons (dVar 15) (dCons (dOp wAdd (dVar 14) (dOp wMul (dVar 16) (dVar 6))) dNil))) [15, 16, 14]) dNil))
theorem law_app {h : Hall} {x : Str} {a : Arc} {m : Mach} {r r' : List Int} {ds : List PyData} {De : DEnds} {s0 s1 s2 s3 s4 s5 s7 s8 s11 s12 : Sl} (hr : newRow h x a m r = (m.2.2.zip r').map fun z => grownN z.1 z.2 (growH h a)) (lo : 0 ≤ growH h a) (hi : growH h a ≤ 5) (fewP : m.2.2.length ≤ 1000) (few : ds.length < 1000000)
    (next : De.nx [s0, s1, s2, s3, s4, s5, .dat (.int (growH h a)), s7, s8, .own (.list (ds ++ [rowD (newRow h x a m r)])), .dat (rowD r'), s11, s12, .dat (pursesD m.2.2), .un, .un, .un]) :
    lawApp De [s0, s1, s2, s3, s4, s5, .dat (.int (growH h a)), s7, s8, .own (.list ds), .dat (rowD r'), s11, s12, .dat (pursesD m.2.2), .un, .un, .un] := by
  refine ⟨rfl, rfl, rfl, ?_⟩
  rw [zipD_both]
  refine lc_map (fun q : Purse × Int => .tuple [purseD q.1, .int q.2]) (fun z => .int (grownN z.1 z.2 (growH h a))) (m.2.2.zip r') (by rw [List.length_zip]; omega) (fun z _ acc k' few' nx => ?_) ?_
  · refine ⟨rfl, rfl, rfl, rfl, rfl, rfl, rfl, rfl, rfl, .inr (by omega), rfl, few', ?_⟩
    have e : (if z.2 + z.1.2 * growH h a < z.1.1 then z.2 + z.1.2 * growH h a else z.1.1) = grownN z.1 z.2 (growH h a) := by
      unfold grownN
      omega
    show k' (acc ++ [.int (if z.2 + z.1.2 * growH h a < z.1.1 then z.2 + z.1.2 * growH h a else z.1.1)])
    rw [e]
    exact nx
  · refine ⟨rfl, few, ?_⟩
    have e : ((m.2.2.zip r').map fun z => PyData.int (grownN z.1 z.2 (growH h a))) = (newRow h x a m r).map PyData.int := by
      rw [hr, List.map_map]
      rfl
    rw [e]
    exact next
theorem zip_zeros (l : List Purse) (r : List Int) (f : Purse → Int → Int) : (l.zip (List.replicate r.length 0)).map (fun z => f z.1 z.2) = (l.zip r).map fun z => f z.1 0 := by
  induction l generalizing r with
  | nil => rfl
  | cons a l ih =>
    cases r with
    | nil => rfl
    | cons b r =>
      have := ih r
      simp only [List.length_cons, List.replicate_succ, List.zip_cons_cons, List.map_cons]
      rw [this]
theorem eqX_arc {b a : Arc} {k : Bool → Prop} (hb : SeqAt.shaped (arcD b) = true) (ha : SeqAt.shaped (arcD a) = true) (h : k (decide (b = a))) : eqX (arcD b) (arcD a) k := by
  have h' : k (PyData.eqv (arcD b) (arcD a)) := by rw [arc_eqv]; exact h
  cases b <;> cases a <;> exact ⟨hb, ha, h'⟩
theorem arc_same {b a : Arc} {ρ : Ro} {i j : Nat} {k : Bool → Prop} (ei : ρ[i]? = some (.dat (arcD b))) (ej : ρ[j]? = some (.dat (arcD a))) (hb : SeqAt.shaped (arcD b) = true) (ha : SeqAt.shaped (arcD a) = true) (h : k (decide (b = a))) : dTest (dOp wEq (dVar i) (dVar j)) ρ k := by
  unfold dTest dOp dVar
  rw [ei, ej]
  exact eqX_arc (k := fun c => boD (atom (.bool c)) k) hb ha h
theorem arc_up {a : Arc} {s0 s1 : Sl} {r : Ro} {k : Bool → Prop} (h : k a.ends) : dTest (dOp wNe (dOp wIx (dVar 2) (dC (.int 0))) (dC (.str "up"))) (s0 :: s1 :: .dat (arcD a) :: r) k := by
  cases a with
  | next x =>
    refine ⟨_, rfl, ?_⟩
    show k (!decide (("next" : Str) = "up"))
    have n : decide (("next" : Str) = "up") = false := by decide +kernel
    rw [n]
    exact h
  | down j =>
    refine ⟨_, rfl, ?_⟩
    show k (!decide (("down" : Str) = "up"))
    have n : decide (("down" : Str) = "up") = false := by decide +kernel
    rw [n]
    exact h
  | up j =>
    refine ⟨_, rfl, ?_⟩
    show k (!decide (("up" : Str) = "up"))
    have n : decide (("up" : Str) = "up") = true := by decide +kernel
    rw [n]
    exact h
def pickOf (a : Arc) (t : ArcT) : Option PyData := if t.1 = a then some (.tuple [.str t.2.1, .int t.2.2]) else none
theorem pick_first {h : Hall} {x : Str} {a : Arc} (mx : x ∈ namesH h) (m : ∃ t ∈ arcsOf h x, t.1 = a) : atI ((arcsOf h x).filterMap (pickOf a)) 0 = some (.tuple [.str (endH h a), .int (growH h a)]) := by
  obtain ⟨t, mt, e⟩ := m
  have all : ∀ z ∈ (arcsOf h x).filterMap (pickOf a), z = .tuple [.str (endH h a), .int (growH h a)] := fun z mz => by
    obtain ⟨u, mu, ez⟩ := List.mem_filterMap.mp mz
    unfold pickOf at ez
    split at ez
    · rename_i eu
      cases ez
      obtain ⟨_, e1, e2, _⟩ := arcsOf_is mu mx
      rw [e1, e2, eu]
    · cases ez
  have mem : PyData.tuple [.str t.2.1, .int t.2.2] ∈ (arcsOf h x).filterMap (pickOf a) := List.mem_filterMap.mpr ⟨t, mt, if_pos e⟩
  cases hl : (arcsOf h x).filterMap (pickOf a) with
  | nil => rw [hl] at mem; cases mem
  | cons z r =>
    have := all z (by rw [hl]; exact .head _)
    rw [this]
    exact atN (j := 0) rfl
theorem flat_zeros (n : Nat) : (List.replicate n [PyData.int 0]).flatten = (List.replicate n (0 : Int)).map PyData.int := by
  induction n with
  | zero => rfl
  | succ n ih =>
    rw [List.replicate_succ, List.replicate_succ, List.flatten_cons, ih]
    rfl
def V__law_behind : WF := fun as P => ∃ (h : Hall) (x : Str) (rows : List (List Int)) (a : Arc), as = [.dat (hallD h), .dat (stD x rows), .dat (arcD a)] ∧ Few h ∧ x ∈ namesH h ∧ (∀ y ∈ namesH h, (PyData.str y).canLay0 = true) ∧ (∃ t ∈ arcsOf h x, t.1 = a) ∧ (∀ q ∈ h.ms.zip rows, q.2.length ≤ 1000) ∧ 0 ≤ growH h a ∧ growH h a ≤ 5 ∧ P (.d (behindD h x rows a) .gd)
theorem w__law_behind {as : List Sl} {P : DK} (hv : V__law_behind as P) : W__law_behind as P := by
  obtain ⟨h, x, rows, a, rfl, few, mx, lay, ma, fewR, lo, hi, p⟩ := hv
  have aok : ∀ {b : Arc}, (∃ t ∈ arcsOf h x, t.1 = b) → SeqAt.shaped (arcD b) = true := fun {b} ⟨t, mt, e⟩ => shaped_arc fun y ey => by
    obtain ⟨o, _⟩ := arcsOf_is mt mx
    rw [e, ey] at o
    exact lay y o
  have sa := aok ma
  have la := arcs_len h x
  have f1 := few.1
  have f2 := few.2.1
  refine ⟨rfl, rfl, rfl, rfl, rfl, rfl, h, x, rfl, few.2.1, rfl, ?_⟩
  refine lc_gen arcT (pickOf a) (arcsOf h x) [] (by simp; omega) (fun t mt acc k' few' nx => ?_) ?_
  · refine ⟨rfl, rfl, rfl, rfl, rfl, rfl, ?_⟩
    refine arc_same (b := t.1) (a := a) rfl rfl (aok ⟨t, mt, rfl⟩) sa ?_
    refine iteD (fun hc => ?_) (fun hc => ?_)
    · have e : pickOf a t = some (.tuple [.str t.2.1, .int t.2.2]) := if_pos hc
      rw [e] at nx
      exact ⟨leb rfl, rfl, few', nx⟩
    · have e : pickOf a t = none := if_neg hc
      rw [e] at nx
      rw [← List.append_nil acc]
      exact nx
  · rw [List.nil_append]
    refine ⟨_, pick_first mx ma, rfl, rfl, rfl, rfl, rfl, leb rfl, rfl, _, rfl, rfl, rfl, rfl, ?_⟩
    rw [zipD_both]
    refine for_gen (fun q : Mach × List Int => .tuple [machD q.1, rowD q.2]) (fun done ρ => ∃ F s10 s11 s12 s13, ρ = [.dat (hallD h), .dat (stD x rows), .dat (arcD a), .dat (.str x), .dat (.tuple (rows.map rowD)), .dat (.str (endH h a)), .dat (.int (growH h a)), .un, .dat (.int (ticksOf x a done)), .own (.list F), s10, s11, s12, s13, .un, .un, .un] ∧ F = (newRows h x a done).map rowD) (h.ms.zip rows) _ ⟨_, _, _, _, _, rfl, rfl⟩ ?_ ?_
    · rintro done q rest _ C e ⟨F, s10, s11, s12, s13, rfl, eF⟩ next
      have mq : q ∈ h.ms.zip rows := by rw [e]; exact List.mem_append_right _ (.head _)
      have fewP := few.2.2 _ (List.of_mem_zip mq).1
      have fewQ := fewR q mq
      have lF : F.length < 1000000 := by
        rw [eF, List.length_map]
        unfold newRows
        rw [List.length_map]
        have := congrArg List.length e
        rw [List.length_zip, List.length_append, List.length_cons] at this
        omega
      have eN : F ++ [rowD (newRow h x a q.1 q.2)] = (newRows h x a (done ++ [q])).map rowD := by
        rw [eF]
        unfold newRows
        rw [List.map_append, List.map_append]
        rfl
      have eT := ticks_snoc x a done q
      have nx := fun r' => next [.dat (hallD h), .dat (stD x rows), .dat (arcD a), .dat (.str x), .dat (.tuple (rows.map rowD)), .dat (.str (endH h a)), .dat (.int (growH h a)), .un, .dat (.int (ticksOf x a (done ++ [q]))), .own (.list (F ++ [rowD (newRow h x a q.1 q.2)])), .dat (rowD r'), .dat (.str q.1.1), .dat (.int q.1.2.1), .dat (pursesD q.1.2.2), .un, .un, .un] ⟨_, _, _, _, _, rfl, eN⟩
      rw [eT] at nx
      have no : giveB x a q.1 = false → ∀ De : DEnds, De.nx = C → lawApp De [.dat (hallD h), .dat (stD x rows), .dat (arcD a), .dat (.str x), .dat (.tuple (rows.map rowD)), .dat (.str (endH h a)), .dat (.int (growH h a)), .un, .dat (.int (ticksOf x a done)), .own (.list F), .dat (rowD q.2), .dat (.str q.1.1), .dat (.int q.1.2.1), .dat (pursesD q.1.2.2), .un, .un, .un] := fun g De eD => by
        subst eD
        rw [if_neg (by rw [g]; decide)] at nx
        refine law_app (h := h) (x := x) (a := a) (m := q.1) (r := q.2) (r' := q.2) ?_ lo hi fewP lF (nx q.2)
        unfold newRow
        rw [g]
        rfl
      refine ⟨rfl, rfl, rfl, rfl, rfl, rfl, rfl, rfl, rfl, rfl, ?_⟩
      refine iteD (fun hc => ?_) (fun hc => ?_)
      · refine arc_up ?_
        have eg : giveB x a q.1 = a.ends := by unfold giveB; rw [decide_eq_true hc, Bool.true_and]
        cases ha : a.ends with
        | true =>
          have g : giveB x a q.1 = true := eg.trans ha
          rw [if_pos g] at nx
          refine ⟨_, intsOf_map (f := _root_.id) (fun _ => rfl) _, leb rfl, by simp, by omega, by show ((((q.2.map PyData.int).length : Nat) : Int)) ≤ 1000; rw [List.length_map]; omega, leb rfl, rfl, ?_⟩
          have key : ∀ (L : List PyData) (S : List Int), L = (List.replicate q.2.length (0 : Int)).map PyData.int → S = q.2 → ∀ De : DEnds, De.nx = C → lawApp De [.dat (hallD h), .dat (stD x rows), .dat (arcD a), .dat (.str x), .dat (.tuple (rows.map rowD)), .dat (.str (endH h a)), .dat (.int (growH h a)), .un, .dat (.int (q.1.2.1 + S.sum)), .own (.list F), .dat (.tuple L), .dat (.str q.1.1), .dat (.int q.1.2.1), .dat (pursesD q.1.2.2), .un, .un, .un] := fun L S eL eS De eD => by
            subst eD eL eS
            refine law_app (h := h) (x := x) (a := a) (m := q.1) (r := q.2) (r' := List.replicate q.2.length 0) ?_ lo hi fewP lF (nx _)
            unfold newRow
            rw [g, zip_zeros q.1.2.2 q.2 fun p c => grownN p c (growH h a)]
            rfl
          refine ⟨rfl, key _ _ ?_ ?_ _ rfl⟩
          · show (List.replicate (((q.2.map PyData.int).length : Nat) : Int).toNat [PyData.int 0]).flatten = _
            rw [List.length_map]
            exact flat_zeros q.2.length
          · exact List.map_id _
        | false => exact no (eg.trans ha) _ rfl
      · exact no (by unfold giveB; rw [decide_eq_false hc, Bool.false_and]) _ rfl
    · rintro _ ⟨F, s10, s11, s12, s13, rfl, eF⟩
      refine ⟨leb rfl, leb rfl, ?_⟩
      rw [eF]
      exact p
/-! ### drawn states -/
theorem RowsOk.snoc {h : List Mach} {R : List (List Int)} {m : Mach} {r : List Int} (len : R.length = h.length) (ok : ∀ q ∈ h.zip R, RowOk q.1.2.2 q.2) (new : RowOk m.2.2 r) : ∀ q ∈ (h ++ [m]).zip (R ++ [r]), RowOk q.1.2.2 q.2 := fun q mq => by
  rw [List.zip_append len.symm] at mq
  rcases List.mem_append.mp mq with z | z
  · exact ok q z
  · rw [List.mem_singleton.mp z]
    exact new
/-! _law_drawn_state -/
abbrev N__law_drawn_state : List Str := ["bag", "hall", "rows", "name", "time", "purses", "size", "back"]
def ws__law_drawn_state : DS := (dSeq (dSetO 2 (dLst dNil))
  (dSeq (dFor (dIter (dOp wIx (dVar 1) (dC (.int 0)))) (wgTup 3 (wgCons (fun r ρ P => asgD 3 r ρ P) (wgCons (fun r ρ P => asgD 4 r ρ P) (wgCons (fun r ρ P => asgD 5 r ρ P) wgNil))))
  (dApp 2 (dCall wTuple (dCons (dLc (dIter (dVar 5)) (wgTup 2 (wgCons (fun r ρ P => asgD 6 r ρ P) (wgCons (fun r ρ P => asgD 7 r ρ P) wgNil))) dYes (dOwn 2 V__law_some (dCons (dVar 0) (dCons (dLst (dCons (dVar 6) (dCons (dC (.int 0)) (dCons (dOwn 2 V__law_take (dCons (dVar 0) (dCons (dOp wAdd (dVar 6) (dC (.int 1))) dNil))) dNil)))) dNil))) [6, 7]) dNil))))
  (dRet (dTup (dCons (dOwn 2 V__law_some (dCons (dVar 0) (dCons (dOwn 1 V__law_names (dCons (dVar 1) dNil)) dNil))) (dCons (dCall wTuple (dCons (dVar 2) dNil)) dNil))))))
abbrev W__law_drawn_state : WF := runD N__law_drawn_state ws__law_drawn_state
def V__law_drawn_state : WF := fun as P => ∃ (h : Hall) (most : Int) (many : Nat), as = [.bag, .dat (hallD h)] ∧ HOk most many h ∧ many ≤ 8 ∧ most ≤ 1000000 ∧ ∀ (x : Str) (rows : List (List Int)), x ∈ namesH h → RowsOk h rows → P (.d (stD x rows) .gd)
theorem w__law_drawn_state {as : List Sl} {P : DK} (hv : V__law_drawn_state as P) : W__law_drawn_state as P := by
  obtain ⟨h, most, many, rfl, ok, many8, mostL, p⟩ := hv
  have few := ok.few_ many8
  refine ⟨leb rfl, _, rfl, rfl, rfl, ?_⟩
  refine for_gen machD (fun done ρ => ∃ F s3 s4 s5, ρ = [.bag, .dat (hallD h), .own (.list F), s3, s4, s5, .un, .un] ∧ ∃ R : List (List Int), F = R.map rowD ∧ R.length = done.length ∧ ∀ q ∈ done.zip R, RowOk q.1.2.2 q.2) h.ms _ ⟨_, _, _, _, rfl, [], rfl, rfl, fun q mq => (nomatch mq)⟩ ?_ ?_
  · rintro done m rest _ C e ⟨F, s3, s4, s5, rfl, R, eF, lR, oR⟩ next
    have mm : m ∈ h.ms := by rw [e]; exact List.mem_append_right _ (.head _)
    have fewP := few.2.2 _ mm
    have lF : F.length < 1000000 := by
      rw [eF, List.length_map, lR]
      have := congrArg List.length e
      rw [List.length_append, List.length_cons] at this
      have := few.1
      omega
    refine ⟨rfl, rfl, rfl, rfl, rfl, rfl, rfl, rfl, ?_⟩
    refine lc_pre purseD m.2.2 (fun done acc => ∃ r : List Int, acc = r.map PyData.int ∧ r.length = done.length ∧ ∀ q ∈ done.zip r, 0 ≤ q.2 ∧ q.2 ≤ q.1.1) m.2.2 [] [] rfl ⟨[], rfl, rfl, fun q mq => (nomatch mq)⟩ (by simp; omega) ?_ ?_
    · rintro done' z rest' acc' k' e' ⟨r, rfl, lr, or⟩ few' nx
      have mz : z ∈ m.2.2 := by rw [e']; exact List.mem_append_right _ (.head _)
      obtain ⟨z1, z2, _, _⟩ := (ok.ms m mm).2.2.2 z mz
      have put : ∀ c : Int, 0 ≤ c → c ≤ z.1 → k' (r.map PyData.int ++ [.int c]) := fun c c0 c1 => nx _ (by simp) ⟨r ++ [c], by rw [List.map_append]; rfl, by rw [List.length_append, List.length_append, lr]; rfl, fun q mq => by
        rw [List.zip_append lr.symm] at mq
        rcases List.mem_append.mp mq with y | y
        · exact or q y
        · rw [List.mem_singleton.mp y]
          exact ⟨c0, c1⟩⟩
      refine ⟨rfl, rfl, rfl, rfl, rfl, rfl, _, rfl, by show 0 < z.1 + 1; omega, by show z.1 + 1 < 1073741824; omega, fun k k0 k1 => ⟨leb rfl, rfl, _, rfl, by show 0 < 3; decide, by show 3 < 1000000; decide, fun x mx => ?_⟩⟩
      simp only [List.mem_cons, List.not_mem_nil, or_false] at mx
      rcases mx with e | e | e
      · subst e; exact ⟨rfl, few', put _ (by omega) (Int.le_refl _)⟩
      · subst e; exact ⟨rfl, few', put _ (Int.le_refl _) (by omega)⟩
      · subst e; exact ⟨rfl, few', put _ k0 (by omega)⟩
    · rintro _ ⟨r, rfl, lr, or⟩
      refine ⟨rfl, lF, next _ ⟨_, _, _, _, rfl, R ++ [r], ?_, ?_, RowsOk.snoc lR oR ⟨lr, or⟩⟩⟩
      · rw [List.map_append, ← eF]; rfl
      · rw [List.length_append, List.length_append, lR]; rfl
  · rintro _ ⟨F, s3, s4, s5, rfl, R, eF, lR, oR⟩
    have ln : (strsD (namesH h)).length = h.ms.length := by unfold strsD namesH; rw [List.length_map, List.length_map]
    obtain ⟨pc, mf, _⟩ := ok.pace
    have pos : 0 < h.ms.length := List.length_pos_of_mem mf
    refine ⟨rfl, h, rfl, few.1, rfl, _, rfl, by rw [ln]; exact pos, by rw [ln]; have := few.1; omega, fun x mx => ?_⟩
    obtain ⟨y, my, rfl⟩ := List.mem_map.mp mx
    refine ⟨leb rfl, ?_⟩
    rw [eF]
    exact p y R my ⟨lR, oR⟩
end Cm

namespace Cm
open PySem PySem.Spec PyProof.Rows L2 Vd Pd
/-! C9: odd things, bent things -/
def Odd (d : PyData) : Prop := Fit 8000 3 d
theorem oddD {d : PyData} (h : (Vd.nice d && Cm.txt d && Cm.small d && decide (Vd.wgt d ≤ 8000) && decide (d.depth ≤ 3)) = true) : Odd d := Fit.of h
/-! _law_odd -/
abbrev N__law_odd : List Str := ["bag", "some"]
def ws__law_odd : DS := (dSeq (dSetO 1 (dLst (dCons (dC .none) (dCons (dC (.bool true)) (dCons (dC (.bool false)) (dCons (dC (.int 0)) (dCons (dC (.int 1)) (dCons (dNeg (dC (.int 1))) (dCons (dOp wPow (dC (.int 10)) (dC (.int 39))) (dCons (dC (.str "")) (dCons (dC (.str "fill")) (dCons (dC (.str "up")) (dCons (dTup dNil) (dCons (dLst dNil) (dCons dDic0 (dCons (dTup (dCons (dC (.int 0)) dNil)) (dCons (dTup (dCons (dC (.str "next")) dNil)) (dCons (dTup (dCons (dC (.str "fill")) (dCons (dTup dNil) dNil))) (dCons (dTup (dCons (dC (.int 1)) (dCons (dC (.int 0)) dNil))) dNil)))))))))))))))))))
  (dRet (dOwn 2 V__law_some (dCons (dVar 0) (dCons (dOp wAdd (dVar 1) (dLst (dCons (dLst (dCons (dC (.str "fill")) (dCons (dTup dNil) dNil))) (dCons (dTup (dCons (dC (.str "up")) (dCons (dC (.int 0)) dNil))) (dCons (dDic1 (Sum.inr "fill") (dTup (dCons (dC (.int 0)) dNil))) (dCons (dDic1 (Sum.inl 0) (dC (.int 1))) (dCons (dC (.str "a\n")) (dCons (dTup (dCons (dTup (dCons (dC (.str "next")) (dCons (dC (.str "fill")) dNil))) dNil)) dNil)))))))) dNil)))))
abbrev W__law_odd : WF := runD N__law_odd ws__law_odd
def V__law_odd : WF := fun as P => as = [.bag] ∧ ∀ d, Odd d → P (.d d .gd)
theorem w__law_odd {as : List Sl} {P : DK} (hv : V__law_odd as P) : W__law_odd as P := by
  obtain ⟨rfl, p⟩ := hv
  refine ⟨by unfold CPow; decide, leb rfl, leb rfl, leb rfl, leb rfl, leb rfl, leb rfl, leb rfl, leb rfl, ?_⟩
  refine ⟨leb rfl, leb rfl, leb rfl, leb rfl, rfl, rfl, leb rfl, leb rfl, leb rfl, .inr rfl, .inl rfl, leb rfl, rfl, _, rfl, leb rfl, leb rfl, fun x mx => ?_⟩
  simp only [List.cons_append, List.nil_append, List.mem_cons, List.not_mem_nil, or_false] at mx
  rcases mx with e | e | e | e | e | e | e | e | e | e | e | e | e | e | e | e | e | e | e | e | e | e | e <;> subst e <;> exact p _ (oddD (by decide +kernel))
/-! _law_bent -/
abbrev N__law_bent : List Str := ["bag", "thing", "deep", "items", "near", "menu", "key", "value", "way", "at", "some"]
def ws__law_bent (V_rec : WF) : DS := (dSeq (dIf (dOr (dTest (dOp wEq (dVar 2) (dC (.int 0)))) (dTest (dOp wEq (dOwn 2 V__law_take (dCons (dVar 0) (dCons (dC (.int 9)) dNil))) (dC (.int 0))))) (dRet (dOwn 1 V__law_odd (dCons (dVar 0) dNil))) dNext)
  (dSeq (dIf (dTru (dOwn 1 V__law_is_int (dCons (dVar 1) dNil))) (dRet (dOwn 2 V__law_some (dCons (dVar 0) (dCons (dLst (dCons (dOp wAdd (dVar 1) (dC (.int 1))) (dCons (dOp wSub (dVar 1) (dC (.int 1))) (dCons (dC (.int 0)) (dCons (dNeg (dVar 1)) (dCons (dOp wEq (dVar 1) (dC (.int 1))) (dCons (dC .none) (dCons (dOp wMul (dC (.int 2)) (dVar 1)) (dCons (dCall wStr (dCons (dVar 1) dNil)) dNil))))))))) dNil)))) dNext)
  (dSeq (dIf (dAnd (dTru (dIsi (isTyX "dict") (dVar 1))) dNoT) dNever dNext)
  (dSeq (dIf (dOr (dNot (dTru (dIsi (isTyX "tuple") (dVar 1)))) (dTest (dOp wEq (dVar 1) (dTup dNil)))) (dRet (dOwn 2 V__law_some (dCons (dVar 0) (dCons (dLst (dCons (dOwn 1 V__law_odd (dCons (dVar 0) dNil)) (dCons (dIfE (dTru (dIsi (isTyX "str") (dVar 1))) (dOp wMul (dVar 1) (dC (.int 2))) (dOwn 1 V__law_odd (dCons (dVar 0) dNil))) dNil))) dNil)))) dNext)
  (dSeq (dPar (parDD 8 9) (dCons (dOwn 2 V__law_take (dCons (dVar 0) (dCons (dC (.int 9)) dNil))) (dCons (dOwn 2 V__law_take (dCons (dVar 0) (dCons (dCall wLen (dCons (dVar 1) dNil)) dNil))) dNil)))
  (dSeq (dIf (dTest (dOp wEq (dVar 8) (dC (.int 0)))) (dSeq (dSetO 10 (dLst (dCons (dCall wList (dCons (dVar 1) dNil)) (dCons (dRev (dVar 1)) (dCons (dOp wAdd (dCut (dVar 1) dNo (dSome (dVar 9))) (dCut (dVar 1) (dSome (dOp wAdd (dVar 9) (dC (.int 1)))) dNo)) (dCons (dOp wAdd (dCut (dVar 1) dNo (dSome (dOp wAdd (dVar 9) (dC (.int 1))))) (dCut (dVar 1) (dSome (dVar 9)) dNo)) dNil))))))
  (dRet (dOwn 2 V__law_some (dCons (dVar 0) (dCons (dOp wAdd (dVar 10) (dLst (dCons (dOp wAdd (dVar 1) (dTup (dCons (dC .none) dNil))) dNil))) dNil))))) dNext)
  (dRet (dOp wAdd (dOp wAdd (dCut (dVar 1) dNo (dSome (dVar 9))) (dTup (dCons (dOwn 3 V_rec (dCons (dVar 0) (dCons (dOp wIx (dVar 1) (dVar 9)) (dCons (dOp wSub (dVar 2) (dC (.int 1))) dNil)))) dNil))) (dCut (dVar 1) (dSome (dOp wAdd (dVar 9) (dC (.int 1)))) dNo)))))))))
abbrev W__law_bent (V_rec : WF) : WF := runD N__law_bent (ws__law_bent V_rec)
def bentW (n W : Nat) : Nat := (2 * n + 2) * W + 20000 + 10 * n
theorem bentW_low (n W : Nat) : 2 * W + 20000 ≤ bentW n W := by
  unfold bentW
  have : 2 * W ≤ (2 * n + 2) * W := Nat.mul_le_mul_right W (by omega)
  omega
theorem bentW_step (n W : Nat) : bentW (n + 1) W = 2 * W + bentW n W + 10 := by
  unfold bentW
  have : (2 * (n + 1) + 2) * W = (2 * n + 2) * W + 2 * W := by
    rw [← Nat.add_mul]
    congr 1
  omega
def V__law_bent (n : Nat) : WF := fun as P => ∃ (d : PyData) (W D : Nat), as = [.bag, .dat d, .dat (.int (n : Nat))] ∧ Plain W D d ∧ W ≤ 40000 ∧ D ≤ 50 ∧ ∀ d', Fit (bentW n W) (D + 4 + n) d' → P (.d d' .gd)
theorem w_bent0 {V : WF} {as : List Sl} {P : DK} (hv : V__law_bent 0 as P) : W__law_bent V as P := by
  obtain ⟨d, W, D, rfl, pl, low, lowD, p⟩ := hv
  refine ⟨rfl, rfl, fun d' od => p d' ?_⟩
  exact od.more (by have := bentW_low 0 W; omega) (by omega)
theorem w_bentS {n : Nat} {as : List Sl} {P : DK} (hv : V__law_bent (n + 1) as P) : W__law_bent (V__law_bent n) as P := by
  obtain ⟨d, W, D, rfl, pl, low, lowD, p⟩ := hv
  have lowW := bentW_low (n + 1) W
  have odd_ : ∀ d', Odd d' → P (.d d' .gd) := fun d' od => p d' (od.more (by omega) (by omega))
  have fin2 : ∀ d', Fit (2 * W + 20000) (D + 3) d' → P (.d d' .gd) := fun d' f => p d' (f.more (by omega) (by omega))
  refine ⟨rfl, _, rfl, by decide, by decide, fun k k0 k1 => iteD (fun _ => ⟨rfl, rfl, odd_⟩) (fun _ => ⟨rfl, d, rfl, ?_⟩)⟩
  cases d with
  | none => exact absurd pl.is (by decide)
  | bool b => exact absurd pl.is (by cases b <;> decide)
  | list ds => exact absurd pl.is (fun z => by cases z)
  | dict ds => exact absurd pl.is (fun z => by cases z)
  | int i =>
    have lo : i.natAbs ≤ 1000000 := of_decide_eq_true pl.is
    have lg : i.natAbs.log2 < 1920 := Nat.lt_of_lt_of_le (PySem.Flt.log2_lt_of (by decide) (int_low (i := i) (by omega))) (by decide)
    have fi : ∀ j : Int, j.natAbs ≤ 100000000 → P (.d (.int j) .gd) := fun j h => fin2 _ ((int_fit h).more (by omega) (by omega))
    refine ⟨.inl (by decide), lg, leb rfl, rfl, _, rfl, leb rfl, leb rfl, fun x mx => ?_⟩
    simp only [List.mem_cons, List.not_mem_nil, or_false] at mx
    rcases mx with e | e | e | e | e | e | e | e <;> subst e
    · exact fi _ (by omega)
    · exact fi _ (by omega)
    · exact fi _ (by omega)
    · exact fi _ (by omega)
    · exact fin2 _ (Fit.more (W := 5) (D := 0) ⟨rfl, rfl, rfl, Nat.le_refl _, Nat.le_refl _⟩ (by omega) (by omega))
    · exact fin2 _ (Fit.more (W := 4) (D := 0) ⟨rfl, rfl, rfl, Nat.le_refl _, Nat.le_refl _⟩ (by omega) (by omega))
    · exact fi _ (by omega)
    · exact fin2 _ ((int_str lo).more (by omega) (by omega))
  | str z =>
    have le : z.length ≤ 20 := by
      have := pl.is
      simp only [plain, Bool.and_eq_true] at this
      exact of_decide_eq_true this.1
    refine ⟨rfl, rfl, fun y oy => ⟨rfl, by omega, fun z2 e2 => ⟨leb rfl, rfl, _, rfl, by show 0 < 2; decide, by show 2 < 1000000; decide, fun x mx => ?_⟩⟩⟩
    simp only [List.mem_cons, List.not_mem_nil, or_false] at mx
    rcases mx with e | e <;> subst e
    · exact odd_ _ oy
    · exact fin2 _ ((twice_fit pl.is e2).more (by omega) (by omega))
  | tuple ds =>
    have sh := pl.shaped (by omega)
    have wds : wgts ds + 4 ≤ W := pl.wgt
    have dsl : ds.length ≤ wgts ds := len_wgts ds
    have dd : PyData.depthAll ds + 1 ≤ D := pl.deep
    have part : ∀ e ∈ ds, Vd.nice e = true ∧ Cm.txt e = true ∧ Cm.small e = true ∧ e.depth ≤ D := fun e m => by
      have q := (pl.part m).fit
      exact ⟨q.nice, q.txt, q.small, q.deep⟩
    refine ⟨leb rfl, sh, rfl, ?_⟩
    cases ds with
    | nil =>
      refine ⟨rfl, rfl, fun y oy => ⟨rfl, rfl, fun z oz => ⟨leb rfl, rfl, _, rfl, by show 0 < 2; decide, by show 2 < 1000000; decide, fun x mx => ?_⟩⟩⟩
      simp only [List.mem_cons, List.not_mem_nil, or_false] at mx
      rcases mx with e | e <;> subst e
      · exact odd_ _ oy
      · exact odd_ _ oz
    | cons x0 xs0 =>
      refine ⟨rfl, _, rfl, by decide, by decide, fun way w0 w1 => ⟨rfl, _, rfl, ?_, ?_, fun a a0 a1 => ⟨rfl, rfl, ?_⟩⟩⟩
      · show (0 : Int) < (((x0 :: xs0).length : Nat) : Int)
        rw [List.length_cons]
        omega
      · show ((((x0 :: xs0).length : Nat) : Int)) < 1073741824
        omega
      obtain ⟨k, rfl⟩ := Int.eq_ofNat_of_zero_le a0
      have kx : k < (x0 :: xs0).length := by
        have : (k : Int) < (((x0 :: xs0).length : Nat) : Int) := a1
        omega
      generalize x0 :: xs0 = ds at *
      have cut2 : ∀ l1 h1 l2 h2 : Option Int, (Pd.cutD ds l1 h1).length + (Pd.cutD ds l2 h2).length ≤ 1000000 := fun l1 h1 l2 h2 => by
        have := cut_len ds l1 h1
        have := cut_len ds l2 h2
        omega
      have catF : ∀ l1 h1 l2 h2 : Option Int, Fit (2 * W + 20000) (D + 3) (.tuple (Pd.cutD ds l1 h1 ++ Pd.cutD ds l2 h2)) := fun l1 h1 l2 h2 => by
        refine (Fit.tupW (W := 2 * W + 20000) (D := D) (fun e m => ?_) ?_).more (Nat.le_refl _) (by omega)
        · rcases List.mem_append.mp m with m | m
          · exact part e (cut_mem m)
          · exact part e (cut_mem m)
        · rw [wgts_app]
          have := cut_wgts ds l1 h1
          have := cut_wgts ds l2 h2
          omega
      refine iteD (fun _ => ?_) (fun _ => ?_)
      · refine ⟨cut2 _ _ _ _, cut2 _ _ _ _, leb rfl, leb rfl, by show ds.length + 1 ≤ 1000000; omega, leb rfl, .inr rfl, .inl rfl, leb rfl, rfl, _, rfl, leb rfl, leb rfl, fun x mx => ?_⟩
        simp only [List.cons_append, List.nil_append, List.mem_cons, List.not_mem_nil, or_false] at mx
        rcases mx with e | e | e | e | e <;> subst e
        · exact fin2 _ ((Fit.lstW (D := D) (W := W) (fun e m => ⟨(part e m).1, (part e m).2.2.2⟩) (by omega)).more (by omega) (by omega))
        · exact fin2 _ ((Fit.tupW (W := 2 * W + 20000) (D := D) (fun e m => part e (List.mem_reverse.mp m)) (by rw [wgts_rev]; omega)).more (Nat.le_refl _) (by omega))
        · exact fin2 _ (catF _ _ _ _)
        · exact fin2 _ (catF _ _ _ _)
        · refine fin2 _ ((Fit.tupW (W := 2 * W + 20000) (D := D) (fun e m => ?_) ?_).more (Nat.le_refl _) (by omega))
          · rcases List.mem_append.mp m with m | m
            · exact part e m
            · cases m with
              | head => exact ⟨rfl, rfl, rfl, Nat.zero_le _⟩
              | tail _ no => cases no
          · rw [wgts_app]
            show wgts ds + (4 + 2 + 0) + 4 ≤ _
            omega
      · have e1 : (((n + 1 : Nat) : Int) - 1) = ((n : Nat) : Int) := by omega
        have mk : ds[k] ∈ ds := List.getElem_mem kx
        refine ⟨ds[k], atN (List.getElem?_eq_getElem kx), rfl, ds[k], W, D, ?_, pl.part mk, low, lowD, fun u fu => ⟨leb rfl, ?_, ?_, ?_⟩⟩
        · show [Sl.bag, .dat ds[k], .dat (.int (((n + 1 : Nat) : Int) - 1))] = _
          rw [e1]
        · have := cut_len ds none (some (k : Int))
          show (Pd.cutD ds none (some (k : Int))).length + 1 ≤ 1000000
          omega
        · have := cut_len ds none (some (k : Int))
          have := cut_len ds (some ((k : Int) + 1)) none
          show (Pd.cutD ds none (some (k : Int)) ++ [u]).length + (Pd.cutD ds (some ((k : Int) + 1)) none).length ≤ 1000000
          rw [List.length_append]
          show _ + 1 + _ ≤ 1000000
          omega
        · refine p _ ?_
          refine (Fit.tupW (W := bentW (n + 1) W) (D := D + 4 + n) (fun e m => ?_) ?_)
          · have up : ∀ e ∈ ds, Vd.nice e = true ∧ Cm.txt e = true ∧ Cm.small e = true ∧ e.depth ≤ D + 4 + n := fun e m => by
              obtain ⟨q1, q2, q3, q4⟩ := part e m
              exact ⟨q1, q2, q3, by omega⟩
            rcases List.mem_append.mp m with m | m
            · rcases List.mem_append.mp m with m | m
              · exact up e (cut_mem m)
              · cases m with
                | head => exact ⟨fu.nice, fu.txt, fu.small, fu.deep⟩
                | tail _ no => cases no
            · exact up e (cut_mem m)
          · rw [wgts_app, wgts_app, bentW_step]
            have := cut_wgts ds none (some (k : Int))
            have := cut_wgts ds (some ((k : Int) + 1)) none
            have := fu.wgt
            show _ + (Vd.wgt u + 2 + 0) + _ + 4 ≤ _
            omega
end Cm

namespace Cm
open PySem PySem.Spec PyProof.Rows L2 Vd Pd
/-! C10: how great halls and states are; alike -/
theorem mem_zip_right {α β : Type} {l : List α} {r : List β} {b : β} (len : r.length = l.length) (m : b ∈ r) : ∃ a, (a, b) ∈ l.zip r := by
  obtain ⟨i, lt, e⟩ := List.mem_iff_getElem.mp m
  refine ⟨l[i], ?_⟩
  refine List.mem_iff_getElem?.mpr ⟨i, ?_⟩
  rw [List.getElem?_zip_eq_some]
  exact ⟨List.getElem?_eq_getElem (by omega), by rw [List.getElem?_eq_getElem lt, e]⟩
theorem Plain.tup {W D n : Nat} {ds : List PyData} (h : ∀ d ∈ ds, Plain W D d) (len : ds.length ≤ n) : Plain (n * (W + 2) + 4) (D + 1) (.tuple ds) := by
  refine ⟨plains_of fun d m => (h d m).is, ?_, Nat.succ_le_succ (depthAll_le fun d m => (h d m).deep)⟩
  have key : ∀ es : List PyData, (∀ d ∈ es, Plain W D d) → wgts es ≤ es.length * (W + 2) := fun es => by
    induction es with
    | nil => exact fun _ => Nat.zero_le _
    | cons e es ih =>
      intro h
      have a := (h e (.head _)).wgt
      have b := ih fun d m => h d (.tail _ m)
      show Vd.wgt e + 2 + wgts es ≤ (es.length + 1) * (W + 2)
      rw [Nat.add_mul]
      omega
  have := key ds h
  have := Nat.mul_le_mul_right (W + 2) len
  show wgts ds + 4 ≤ _
  omega
theorem Plain.more {W D W' D' : Nat} {d : PyData} (h : Plain W D d) (hw : W ≤ W') (hd : D ≤ D') : Plain W' D' d := ⟨h.is, Nat.le_trans h.wgt hw, Nat.le_trans h.deep hd⟩
theorem plain_int {i : Int} (h : i.natAbs ≤ 1000000) : Plain 1921 0 (.int i) := ⟨decide_eq_true h, Nat.le_refl _, Nat.le_refl _⟩
theorem plain_str {x : Str} (h : nameOk x = true) : Plain 202 0 (.str x) := by
  unfold nameOk at h
  simp only [Bool.and_eq_true, decide_eq_true_eq] at h
  refine ⟨?_, ?_, Nat.le_refl _⟩
  · show (decide (x.length ≤ 20) && _) = true
    rw [decide_eq_true h.2, h.1]
    rfl
  · show 10 * x.length + 2 ≤ 202
    omega
theorem Plain.shows {W D : Nat} {d : PyData} (h : Plain W D d) (hw : W ≤ 10000000) (hd : D ≤ 60) : Shows d ∧ d.depth ≤ 60 := h.fit.shows hw hd
def RowsLow (rows : List (List Int)) : Prop := rows.length ≤ 9 ∧ ∀ r ∈ rows, r.length ≤ 2 ∧ ∀ c ∈ r, c.natAbs ≤ 1000000
theorem plain_state {x : Str} {rows : List (List Int)} (hx : nameOk x = true) (h : RowsLow rows) : Plain 40000 3 (stD x rows) := by
  have row : ∀ d ∈ rows.map rowD, Plain 3850 1 d := fun d m => by
    obtain ⟨r, mr, rfl⟩ := List.mem_map.mp m
    obtain ⟨l, c⟩ := h.2 r mr
    refine Plain.tup (n := 2) (W := 1921) (D := 0) (fun e me => ?_) (by rw [List.length_map]; exact l)
    obtain ⟨i, mi, rfl⟩ := List.mem_map.mp me
    exact plain_int (c i mi)
  have all := Plain.tup (n := 9) row (by rw [List.length_map]; exact h.1)
  have sx := plain_str hx
  refine ⟨?_, ?_, ?_⟩
  · show (plain (.str x) && (plain (.tuple (rows.map rowD)) && true)) = true
    rw [sx.is, all.is]
    rfl
  · have a := sx.wgt
    have b := all.wgt
    show Vd.wgt (.str x) + 2 + (Vd.wgt (.tuple (rows.map rowD)) + 2 + 0) + 4 ≤ 40000
    omega
  · have := all.deep
    show max 0 (max (PyData.tuple (rows.map rowD)).depth 0) + 1 ≤ 3
    omega
theorem RowsOk.low {most : Int} {many : Nat} {h : Hall} {rows : List (List Int)} (ok : HOk most many h) (many8 : many ≤ 8) (mostL : most ≤ 1000000) (ro : RowsOk h rows) : RowsLow rows := by
  refine ⟨by have := ok.few; have := ro.1; omega, fun r mr => ?_⟩
  obtain ⟨m, mz⟩ := mem_zip_right ro.1 mr
  obtain ⟨l, c⟩ := ro.2 _ mz
  have mm := (List.of_mem_zip mz).1
  obtain ⟨_, _, l2, ps⟩ := ok.ms m mm
  refine ⟨by have : r.length = m.2.2.length := l; omega, fun i mi => ?_⟩
  obtain ⟨p, mp⟩ := mem_zip_right l mi
  have := c _ mp
  obtain ⟨_, p2, _⟩ := ps p (List.of_mem_zip mp).1
  have c1 : 0 ≤ i := this.1
  have c2 : i ≤ p.1 := this.2
  omega
theorem full_ok {most : Int} {many : Nat} {h : Hall} (ok : HOk most many h) : RowsOk h (fullRows h) := by
  refine ⟨by unfold fullRows; rw [List.length_map], fun q mq => ?_⟩
  unfold fullRows at mq
  have e : ∀ (l : List Mach), ∀ q ∈ l.zip (l.map fun m => m.2.2.map (·.1)), q.2 = q.1.2.2.map (·.1) ∧ q.1 ∈ l := fun l => by
    induction l with
    | nil => exact fun q m => nomatch m
    | cons a l ih =>
      intro q m
      rw [List.map_cons, List.zip_cons_cons] at m
      rcases List.mem_cons.mp m with e | m
      · subst e; exact ⟨rfl, .head _⟩
      · exact ⟨(ih q m).1, .tail _ (ih q m).2⟩
  obtain ⟨e1, m1⟩ := e h.ms q mq
  rw [e1]
  refine ⟨List.length_map .., fun z mz => ?_⟩
  have e2 : ∀ (l : List Purse), ∀ z ∈ l.zip (l.map (·.1)), z.2 = z.1.1 ∧ z.1 ∈ l := fun l => by
    induction l with
    | nil => exact fun q m => nomatch m
    | cons a l ih =>
      intro q m
      rw [List.map_cons, List.zip_cons_cons] at m
      rcases List.mem_cons.mp m with e | m
      · subst e; exact ⟨rfl, .head _⟩
      · exact ⟨(ih q m).1, .tail _ (ih q m).2⟩
  obtain ⟨e3, m3⟩ := e2 _ z mz
  obtain ⟨a1, _, _⟩ := (ok.ms _ m1).2.2.2 _ m3
  rw [e3]
  exact ⟨by omega, Int.le_refl _⟩
theorem behind_ok {most : Int} {many : Nat} {h : Hall} {rows : List (List Int)} {x : Str} {a : Arc} (ok : HOk most many h) (ro : RowsOk h rows) (lo : 0 ≤ growH h a) : RowsOk h (newRows h x a (h.ms.zip rows)) := by
  have len : (newRows h x a (h.ms.zip rows)).length = h.ms.length := by
    unfold newRows
    rw [List.length_map, List.length_zip, ro.1, Nat.min_self]
  refine ⟨len, fun q mq => ?_⟩
  have e : ∀ (l : List Mach) (r : List (List Int)), ∀ q ∈ l.zip ((l.zip r).map fun q => newRow h x a q.1 q.2), ∃ r', (q.1, r') ∈ l.zip r ∧ q.2 = newRow h x a q.1 r' := fun l => by
    induction l with
    | nil => exact fun r q m => nomatch m
    | cons b l ih =>
      intro r q m
      cases r with
      | nil => cases m
      | cons c r =>
        rw [List.zip_cons_cons, List.map_cons, List.zip_cons_cons] at m
        rcases List.mem_cons.mp m with e | m
        · subst e; exact ⟨c, .head _, rfl⟩
        · obtain ⟨r', m1, e1⟩ := ih r q m
          exact ⟨r', .tail _ m1, e1⟩
  obtain ⟨r', m1, e1⟩ := e h.ms rows q mq
  obtain ⟨l, c⟩ := ro.2 _ m1
  have l' : r'.length = q.1.2.2.length := l
  have mm := (List.of_mem_zip m1).1
  rw [e1]
  refine ⟨by unfold newRow; rw [List.length_map, List.length_zip, l', Nat.min_self], fun z mz => ?_⟩
  have e2 : ∀ (l : List Purse) (r : List Int), ∀ z ∈ l.zip ((l.zip r).map fun z => grownN z.1 (if giveB x a q.1 = true then 0 else z.2) (growH h a)), ∃ c, (z.1, c) ∈ l.zip r ∧ z.2 = grownN z.1 (if giveB x a q.1 = true then 0 else c) (growH h a) := fun l => by
    induction l with
    | nil => exact fun r z m => nomatch m
    | cons b l ih =>
      intro r z m
      cases r with
      | nil => cases m
      | cons c r =>
        rw [List.zip_cons_cons, List.map_cons, List.zip_cons_cons] at m
        rcases List.mem_cons.mp m with e | m
        · subst e; exact ⟨c, .head _, rfl⟩
        · obtain ⟨r', m1, e1⟩ := ih r z m
          exact ⟨r', .tail _ m1, e1⟩
  obtain ⟨c', mc, ec⟩ := e2 _ _ z mz
  obtain ⟨c0, c1⟩ := c _ mc
  have c0 : 0 ≤ c' := c0
  obtain ⟨p1, p2, p3, p4⟩ := (ok.ms _ mm).2.2.2 _ (List.of_mem_zip mc).1
  rw [ec]
  have back : 0 ≤ z.1.2 * growH h a := Int.mul_nonneg p3 lo
  unfold grownN
  constructor
  · split <;> omega
  · omega
end Cm

/-! D16: a law by data, once it has its bag -/
namespace Pd
open PySem PySem.Spec PyProof.Rows L2 Vd
open Classical
def deLaw : DEnds := { nx := fun _ => False, rt := fun r => r = atom (.bool true) }
theorem law_go {K : PySem.W.Frag} {ts : TS} {ws : DS} {k : Nat} {b : Addr} {H : Hp} {v0 : Option V} {Q : VK} {nx : L2.St → Hp → Prop} (h : SndS K ts ws) (bag : BagAt H b) (hw : ws deLaw ([.un, .bag] ++ List.replicate k .un)) (q : ∀ H', Q (.bl true) H') :
    ts { nx := nx, rt := Q } ([v0, some (.ref b)] ++ List.replicate k none) H := by
  have un : ∀ (i : Nat) (s : Sl), ([Sl.un, .bag] ++ List.replicate k .un)[i]? = some s → s = .un ∨ (i = 1 ∧ s = .bag) := fun i s e => by
    match i with
    | 0 => left; simpa using e.symm
    | 1 => right; exact ⟨rfl, by simpa using e.symm⟩
    | i + 2 =>
      left
      rw [List.getElem?_append_right (by simp)] at e
      have := List.mem_of_getElem? e
      exact List.eq_of_mem_replicate this
  have noown : ∀ (i : Nat) (x : PyData), ([Sl.un, .bag] ++ List.replicate k .un)[i]? = some (Sl.own x) → False := fun i x e => by
    rcases un i _ e with z | ⟨_, z⟩ <;> cases z
  have S : Sim K ⟨some b, H, fun _ => False, fun _ => False⟩ ([.un, .bag] ++ List.replicate k .un) ([v0, some (.ref b)] ++ List.replicate k none) H := by
    refine ⟨by simp, Bu.refl _ _, fun c e => by cases e; exact bag, fun i s e => ?_, fun p h => h.elim, fun i j x y p _ e => (noown i x e).elim⟩
    rcases un i s e with rfl | ⟨rfl, rfl⟩
    · trivial
    · exact ⟨b, rfl, rfl⟩
  refine h.go _ _ _ _ _ _ S hw ⟨fun _ _ _ _ _ no => no.elim, fun r v H' _ ret p => ?_, fun _ _ _ _ _ no => no.elim, fun _ _ _ _ _ no => no.elim⟩
  have p : r = atom (.bool true) := p
  subst p
  have ret : Dat K _ v (.bool true) := ret
  cases ret
  exact q H'
section
variable {P : Program} {w : World} {K : PySem.W.Frag} {mg : Str → Option Value} {base : Heap}
theorem fng_imp {k : Nat} {f : Addr} {fd : FuncData} {ps : List Str} {sp sp' : Sp} (F : FnG P w K mg base k f fd ps sp) (h : ∀ vs H Q E, sp' vs H Q E → sp vs H Q E) : FnG P w K mg base k f fd ps sp' :=
  ⟨fun vs H Q E q => F.many vs H Q E (h _ _ _ _ q), fun B frames t G args us vs Q E room gd env bind rel prom => F.go B frames t G args us vs Q E room gd env bind rel (h _ _ _ _ prom)⟩
theorem fn_never {k n : Nat} {f : Addr} {fd : FuncData} {ps : List Str} : FnOk P w K mg base CX0 k f fd ps (spD K n fun _ _ => False) :=
  ⟨fun vs H Q E h => by obtain ⟨_, _, _, _, _, _, _, h, _⟩ := h; exact h.elim, fun A outer s H args us vs Q E hr he hb hv hs => by obtain ⟨_, _, _, _, _, _, _, h, _⟩ := hs; exact h.elim⟩
/-- the bag and a number -/
theorem two_bag {vs : List V} {H : Hp} {Q : VK} {E : XK} {wf : WF} {i : Int → (Int → Prop) → Prop} (hwf : ∀ as P, wf as P → ∃ m : Int, as = [.bag, .dat (.int m)] ∧ i m fun k => P (atom (.int k))) (h : spD K 2 wf vs H Q E) :
    ∃ (b : Addr) (m : Int) (P : DK), vs = [.ref b, .int m] ∧ BagAt H b ∧ (i m fun k => P (atom (.int k))) ∧ ∀ H' k, But b H H' → P (atom (.int k)) → Q (.int k) H' := by
  obtain ⟨β, R, as, P, bag, args, len, hw, fin⟩ := h
  obtain ⟨m, rfl, p⟩ := hwf as P hw
  cases args with
  | cons a1 r =>
    cases r with
    | cons a2 r =>
      cases r
      obtain ⟨b, rfl, rfl⟩ := a1
      have a2 : Dat K _ _ (.int m) := a2
      cases a2
      exact ⟨b, m, P, rfl, bag b rfl, p, fun H' k but pk => fin (atom (.int k)) (.int k) H' but (Dat.int k) pk⟩
/-- two values -/
theorem two_dat {vs : List V} {H : Hp} {Q : VK} {E : XK} {wf : WF} {i : PyData → PyData → Prop → Prop} (hwf : ∀ as P, wf as P → ∃ d e : PyData, as = [.dat d, .dat e] ∧ i d e (P (atom (.bool true)))) (h : spD K 2 wf vs H Q E) :
    ∃ (x y : V) (d e : PyData) (P : Prop), vs = [x, y] ∧ Dat K H x d ∧ Dat K H y e ∧ i d e P ∧ (P → Q (.bl true) H) := by
  obtain ⟨β, R, as, P, bag, args, len, hw, fin⟩ := h
  obtain ⟨d, e, rfl, p⟩ := hwf as P hw
  cases args with
  | @cons v _ _ _ a1 r =>
    cases r with
    | @cons u _ _ _ a2 r =>
      cases r
      have a1 : Dat K _ v d := a1
      have a2 : Dat K _ u e := a2
      exact ⟨v, u, d, e, _, rfl, Dat.up res_sub a1, Dat.up res_sub a2, p, fun pk => fin (atom (.bool true)) (.bl true) H (Bu.refl _ _) (Dat.bl true) pk⟩
end
end Pd

namespace Vd
open PySem PySem.Spec PyProof.Rows L2
/-! ### the law is called where no guard is around -/
section
variable {P : Program} {w : World} {K : PySem.W.Frag} {mg mb : Str → Option Value} {s : Shared} {H : Hp} {a : Addr} {vs : List Value}
/-- what stands beside the one list that is looked at -/
theorem around_one (inK : K.In s.heap) (gl : s.heap.Ns mainGlobals mg) (bn : s.heap.Ns builtinsNs mb) (bv : ∀ y : Str, y ≠ "__name__" → mb y = bootBuiltins y) (free : s.heap.NoLimit) (none_yet : s.gens = #[])
    (at_a : s.heap.get? a = some { cls := .type "list", data := .seq vs.toArray }) (good : HOk P w H s.heap) (one : ∀ b, b ≠ a → H b = none) (apart : (∃ u, H a = some u) → K.lookup a = none) :
    K.In (hidT s.heap H) ∧ (hidT s.heap H).Ns mainGlobals mg ∧ Env0 P w K mg (hidT s.heap H) callerA [] s H := by
  have dict_free : ∀ {b : Addr} {o : Obj} {es : Array DictEntry} {n : Nat}, s.heap.get? b = some o → o.data = .dict es n → H b = none := fun {b o es n} there isD =>
    one b fun same => by
      subst same
      rw [at_a] at there
      cases there
      have no : Data.seq vs.toArray _ = Data.dict es n := isD
      cases no
  have spaces : ∀ {b : Addr} {f : Str → Option Value}, s.heap.Ns b f → (hidT s.heap H).Ns b f := fun {b f} h => by
    obtain ⟨o, es, n, there, isD, rest⟩ := h
    exact ⟨o, es, n, hidT_get there (dict_free there isD), isD, rest⟩
  have written : K.In (hidT s.heap H) := fun b o look => by
    refine hidT_get (inK b o look) ?_
    by_cases same : b = a
    · cases seen : H b with
      | none => rfl
      | some u =>
        subst same
        rw [apart ⟨u, seen⟩] at look
        cases look
    · exact one b same
  obtain ⟨ml, lim1, lim2⟩ := free
  exact ⟨written, spaces gl, ⟨rfl, ⟨written, spaces gl, ⟨mb, spaces bn, bv⟩, ⟨ml, spaces lim1, lim2⟩⟩, fun b o z => of_hidT z, Nat.le_of_eq (hidT_size _ _), trivial,
    fun b no => absurd (show b ∈ ([] : List Addr) from no) (List.not_mem_nil), good, .of_eq none_yet⟩⟩
variable {k : Nat} {fa : Addr} {fd : FuncData} {x : Str} {sp : Sp} {ns : List Int}
theorem run_one (inK : K.In s.heap) (gl : s.heap.Ns mainGlobals mg) (bn : s.heap.Ns builtinsNs mb) (bv : ∀ y : Str, y ≠ "__name__" → mb y = bootBuiltins y) (free : s.heap.NoLimit) (none_yet : s.gens = #[])
    (at_a : s.heap.get? a = some { cls := .type "list", data := .seq vs.toArray }) (good : HOk P w H s.heap) (one : ∀ b, b ≠ a → H b = none) (apart : (∃ u, H a = some u) → K.lookup a = none) (only : Only H) (room : Room k callerA)
    (F : ∀ base : Heap, K.In base → base.Ns mainGlobals mg → FnG P w K mg base k fa fd [x] sp) (bind : ∀ (t : Shared) (u : Value), BindsTo t fd ⟨[u], []⟩ [(x, u)]) (ask : sp [.ref a] H (fun v _ => v = .bl true) E0) :
    codeAny (model P w) callerA (.call (.ref fa) ⟨[.ref a], []⟩) (fun r t => r = .ok (.ret (.bool true)) ∧ OldK s.heap t.heap ∧ t.os = s.os ∧ AllBare t.gens) s := by
  obtain ⟨written, glob, env⟩ := around_one inK gl bn bv free none_yet at_a good one apart
  refine codeAny_mono ((F _ written glob).go callerA [] s H ⟨[.ref a], []⟩ [.ref a] [.ref a] _ E0 room rfl env (bind s (.ref a)) (.cons rfl .nil) ask) fun r t got => ?_
  match r, got with
  | .ok (.ret u), ⟨v, H', os, bare, un, hok', rv, q⟩ =>
    have q' : v = .bl true := q
    subst q'
    cases (show u = Value.bool true from rv)
    refine ⟨rfl, OldK.of_keep fun b o there => ?_, os, bare⟩
    rcases only b with clear_ | ⟨ob, xs, frozen⟩
    · exact un.keep b o there clear_ (fun no => absurd (show b ∈ ([] : List Addr) from no) (List.not_mem_nil)) (List.not_mem_nil)
    · have before := (good b _ frozen).1
      have behind := (hok' b _ (un.frzs b ob _ frozen)).1
      rw [there] at before
      cases before
      exact behind
  | .ok .next, no => exact no.elim
  | .ok .brk, no => exact no.elim
  | .ok .cont, no => exact no.elim
  | .error _, no => exact no.elim
theorem run_law (inK : K.In s.heap) (gl : s.heap.Ns mainGlobals mg) (bn : s.heap.Ns builtinsNs mb) (bv : ∀ y : Str, y ≠ "__name__" → mb y = bootBuiltins y) (free : s.heap.NoLimit) (none_yet : s.gens = #[])
    (at_a : s.heap.get? a = some { cls := .type "list", data := .seq vs.toArray }) (isI : IntsAre vs ns) (few : ns.length ≤ sizeLine) (room : Room k callerA)
    (F : ∀ base : Heap, K.In base → base.Ns mainGlobals mg → FnG P w K mg base k fa fd [x] sp) (bind : ∀ (t : Shared) (u : Value), BindsTo t fd ⟨[u], []⟩ [(x, u)])
    (ask : ∀ H : Hp, SqL K H a (ns.map V.int) → sp [.ref a] H (fun v _ => v = .bl true) E0) :
    codeAny (model P w) callerA (.call (.ref fa) ⟨[.ref a], []⟩) (fun r t => r = .ok (.ret (.bool true)) ∧ OldK s.heap t.heap ∧ t.os = s.os ∧ AllBare t.gens) s := by
  have rel := vals_ints isI
  have same := isI.length
  cases look : K.lookup a with
  | none =>
    let seen : Hp := fun b => if b = a then some (.frz { cls := .type "list", data := .seq vs.toArray } (.lst (ns.map V.int))) else none
    have at_seen : seen a = some (.frz { cls := .type "list", data := .seq vs.toArray } (.lst (ns.map V.int))) := if_pos rfl
    have no_more : ∀ b, b ≠ a → seen b = none := fun b ne => if_neg ne
    refine run_one (H := seen) inK gl bn bv free none_yet at_a (fun b u e => ?_) no_more (fun _ => look) (fun b => ?_) room F bind (ask seen (.inl (.inr ⟨_, at_seen⟩)))
    · by_cases ne : b = a
      · subst ne
        rw [at_seen] at e
        cases e
        exact ⟨at_a, by rw [List.length_map]; exact few, vs, _, rel, at_a⟩
      · rw [no_more b ne] at e
        cases e
    · by_cases ne : b = a
      · exact .inr ⟨_, _, by rw [ne]; exact at_seen⟩
      · exact .inl (no_more b ne)
  | some o =>
    have there := inK a o look
    rw [at_a] at there
    cases there
    refine run_one (H := fun _ => none) inK gl bn bv free none_yet at_a (fun b u e => nomatch e) (fun _ _ => rfl) (fun ⟨u, e⟩ => nomatch e) (fun _ => .inl rfl) room F bind (ask _ (.inr ⟨_, vs.toArray, _, look, rfl, rfl, rfl, ?_, ?_⟩))
    · rw [List.size_toArray, same]
      exact few
    · simpa using rel
end
/-- the head for a law that asks repr -/
theorem walkG {l : PySem.W.OpenLaw} {n k : Nat} {q : Program} {loose : List Str} {XP : (Str → Option Value) → Heap → Prop} {YP : World → Heap → Prop} {d : DefRec} {K : Params → PySem.W.Frag} {sp : PySem.W.Frag → Sp} {x : Str}
    (most : l.most = some n) (low : n ≤ sizeLine) (plain : d.params.defaults = []) (room : Room k callerA) (there : ∀ (w : World) (h : Heap), YP w h → (K w.params).In h)
    (F : ∀ (w : World) (mg : Str → Option Value) (fa : Addr) (h : Heap), (K w.params).In h → h.Ns mainGlobals mg → mg d.name = some (.ref fa) →
      ∃ fd : FuncData, (∀ (t : Shared) (u : Value), BindsTo t fd ⟨[u], []⟩ [(x, u)]) ∧ ∀ base : Heap, (K w.params).In base → base.Ns mainGlobals mg → FnG l.prog w (K w.params) mg base k fa fd [x] (sp (K w.params)))
    (ask : ∀ (K : PySem.W.Frag) (H : Hp) (a : Addr) (ns : List Int), ns.length ≤ n → SqL K H a (ns.map V.int) → sp K [.ref a] H (fun v _ => v = .bl true) E0) :
    PySem.W.WalkO q loose XP YP l.row.toRowW d [] (fun f vs => PySem.call f vs) := by
  refine Att.attach_call most plain fun w s0 s1 mg mb fa o pm cd doc a vs ns G Y _ _ _ at_f at_a isI few gens => ?_
  have inK := there w _ Y
  obtain ⟨fd, bind, ok⟩ := F w mg fa _ inK G.T.g at_f
  exact run_law inK G.T.g G.T.b G.T.builtins G.T.nolimit gens at_a isI (Nat.le_trans few low) room ok bind fun H sq => ask _ H a ns few sq
end Vd

/-! D17: what kinds are, at a law's head -/
namespace Pd
open PySem PySem.Spec PyProof.Rows L2 Vd
theorem kit_typ {K : PySem.W.Frag} {t : Value} {T : String} {b : Bool} (ne : (t == Value.type T) = false) (m : PySem.W.kitMeta T = true) (h : PySem.W.subIn K t (.type T) = some b) : PySem.W.kitOne K t (.type T) = some b := by
  unfold PySem.W.kitOne
  rw [if_neg (by rw [ne]; decide)]
  show (if PySem.W.kitMeta T = true then PySem.W.subIn K t (.type T) else none) = some b
  rw [if_pos m, h]
theorem kit_same {K : PySem.W.Frag} {T : String} : PySem.W.kitOne K (.type T) (.type T) = some true := by
  unfold PySem.W.kitOne
  rw [if_pos (by simp)]
/-- what a law promises -/
def spLaw (K : PySem.W.Frag) : Sp := fun vs H Q _ => ∃ (a : Addr) (ns : List Int), vs = [.ref a] ∧ SqL K H a (ns.map V.int) ∧ ns.length ≤ 63 ∧ ∀ H', Q (.bl true) H'
end Pd

/-! D18: dicts by data: get, in, store, a display; the first taken off a list -/
namespace Pd
open PySem PySem.Spec PyProof.Rows L2 Vd
def keyX : PyData → Option Key
  | .int i => some (.inl i)
  | .str x => some (.inr x)
  | _ => none
theorem keyX_D (k : Key) : keyX (keyD k) = some k := by cases k <;> rfl
theorem keyX_is {y : PyData} {k : Key} (h : keyX y = some k) : y = keyD k ∧ flatX y = true ∧ flatV_ y = kV k := by
  cases y <;> cases h <;> exact ⟨rfl, rfl, rfl⟩
def isKey (k : Key) (q : PyData × PyData) : Bool := match keyX q.1 with
  | some k' => decide (k' = k)
  | none => false
theorem isKey_D (k k' : Key) (d : PyData) : isKey k (keyD k', d) = decide (k' = k) := by unfold isKey; rw [keyX_D]
def valKD (kvs : List (PyData × PyData)) (k : Key) : Option PyData := (kvs.find? (isKey k)).map (·.2)
def putKD (kvs : List (PyData × PyData)) (k : Key) (x : PyData) : List (PyData × PyData) := if kvs.any (isKey k) = true then kvs.map (fun q => if isKey k q = true then (q.1, x) else q) else kvs ++ [(keyD k, x)]
section
variable {K : PySem.W.Frag} {F : Hp}
theorem kv_len : ∀ {kv : List (Key × V)} {kvs : List (PyData × PyData)}, DatKv K F kv kvs → kv.length = kvs.length
  | _, _, .nil => rfl
  | _, _, .cons _ r => by rw [List.length_cons, List.length_cons, kv_len r]
theorem kv_get {k : Key} : ∀ {kv : List (Key × V)} {kvs : List (PyData × PyData)}, DatKv K F kv kvs → (valV kv k = none ∧ valKD kvs k = none) ∨ ∃ v x, valV kv k = some v ∧ valKD kvs k = some x ∧ Dat K F v x
  | _, _, .nil => .inl ⟨rfl, rfl⟩
  | _, _, @DatKv.cons _ _ k' v r d ds a b => by
    by_cases e : k' = k
    · refine .inr ⟨v, d, valV_pos e, ?_, a⟩
      unfold valKD
      rw [List.find?_cons, isKey_D, decide_eq_true e]
      rfl
    · have e2 : valKD ((keyD k', d) :: ds) k = valKD ds k := by
        unfold valKD
        rw [List.find?_cons, isKey_D, decide_eq_false e]
      rw [e2, valV_neg (p := (k', v)) e]
      exact kv_get b
theorem kv_any {k : Key} : ∀ {kv : List (Key × V)} {kvs : List (PyData × PyData)}, DatKv K F kv kvs → (kv.any fun q => decide (q.1 = k)) = kvs.any (isKey k)
  | _, _, .nil => rfl
  | _, _, @DatKv.cons _ _ k' v r d ds a b => by
    rw [List.any_cons, List.any_cons, isKey_D, kv_any b]
theorem kv_snoc {k : Key} {v : V} {x : PyData} (h : Dat K F v x) : ∀ {kv : List (Key × V)} {kvs : List (PyData × PyData)}, DatKv K F kv kvs → DatKv K F (kv ++ [(k, v)]) (kvs ++ [(keyD k, x)])
  | _, _, .nil => .cons h .nil
  | _, _, .cons a b => .cons a (kv_snoc h b)
theorem kv_map {k : Key} {v : V} {x : PyData} (h : Dat K F v x) : ∀ {kv : List (Key × V)} {kvs : List (PyData × PyData)}, DatKv K F kv kvs → DatKv K F (kv.map fun q => if q.1 = k then (q.1, v) else q) (kvs.map fun q => if isKey k q = true then (q.1, x) else q)
  | _, _, .nil => .nil
  | _, _, @DatKv.cons _ _ k' v' r d ds a b => by
    rw [List.map_cons, List.map_cons, isKey_D]
    by_cases e : k' = k
    · rw [if_pos (show (k', v').1 = k from e), if_pos (decide_eq_true e)]
      exact .cons h (kv_map h b)
    · rw [if_neg (show ¬ (k', v').1 = k from e), if_neg (by rw [decide_eq_false e]; decide)]
      exact .cons a (kv_map h b)
theorem kv_put {k : Key} {v : V} {x : PyData} {kv : List (Key × V)} {kvs : List (PyData × PyData)} (h : DatKv K F kv kvs) (hv : Dat K F v x) : DatKv K F (putK kv k v) (putKD kvs k x) := by
  have e := kv_any (k := k) h
  cases ea : kvs.any (isKey k) with
  | true =>
    have e1 : putKD kvs k x = kvs.map (fun q => if isKey k q = true then (q.1, x) else q) := by unfold putKD; rw [if_pos ea]
    have e2 : putK kv k v = kv.map (fun q => if q.1 = k then (q.1, v) else q) := by
      unfold putK
      rw [if_pos (e.trans ea)]
    rw [e1, e2]
    exact kv_map hv h
  | false =>
    have e1 : putKD kvs k x = kvs ++ [(keyD k, x)] := by unfold putKD; rw [if_neg (by rw [ea]; decide)]
    have e2 : putK kv k v = kv ++ [(k, v)] := by
      unfold putK
      rw [if_neg (by rw [e.trans ea]; decide)]
    rw [e1, e2]
    exact kv_snoc hv h
variable {W : Wd} {ρ : Ro} {σ : L2.St} {H H1 H2 : Hp} {v : V}
theorem ER.dict {kvs : List (PyData × PyData)} {f : Fl} (h : ER K W ρ σ H H1 v (.d (.dict kvs) f)) : ∃ a kv, v = .ref a ∧ H1 a = some (.dK kv) ∧ (f ≠ .fr → f ≠ .ow → True) ∧ (∃ F, (∀ p o, F p = some o → H1 p = some o) ∧ DatKv K F kv kvs) ∧ (f.parts = true → DatKv K (res (okg W ρ σ) H1) kv kvs) ∧ (f = .wk → DatKv K (res (okw W) H1) kv kvs) := by
  cases f with
  | wk =>
    have h : Dat K (res (okw W) H1) v (.dict kvs) := h
    cases h with
    | @dic a kv _ e d => exact ⟨a, kv, rfl, res_sub _ _ e, fun _ _ => trivial, ⟨_, res_sub, d⟩, fun z => (by cases z), fun _ => d⟩
  | gd =>
    have h : Dat K (res (okg W ρ σ) H1) v (.dict kvs) := h
    cases h with
    | @dic a kv _ e d => exact ⟨a, kv, rfl, res_sub _ _ e, fun _ _ => trivial, ⟨_, res_sub, d⟩, fun _ => d, fun z => by cases z⟩
  | fr =>
    obtain ⟨p, rfl, n, kv, e, d⟩ := h
    exact ⟨p, kv, rfl, e, fun _ _ => trivial, ⟨_, res_sub, d⟩, fun _ => DatKv.up resgp_g d, fun z => by cases z⟩
  | ow =>
    obtain ⟨p, rfl, ok, kv, e, d⟩ := h
    exact ⟨p, kv, rfl, e, fun _ _ => trivial, ⟨_, res_sub, d⟩, fun _ => d, fun z => by cases z⟩
end
/-! ### d[k] -/
def getKD (x : PyData) (f : Fl) (y : PyData) (P : DK) : Prop := match x with
  | .dict kvs => ∃ k, keyX y = some k ∧ ∃ z, valKD kvs k = some z ∧ P (.d z (flIf (f.parts || pure_ z) .gd))
  | _ => False
def dGetD (wd wk : DE) : DE := fun ρ P => wd ρ fun r1 => onD r1 fun x f => wk ρ fun r2 => onD r2 fun y _ => getKD x f y P
section
variable {K : PySem.W.Frag}
theorem kv_val {F : Hp} {k : Key} {kv : List (Key × V)} {kvs : List (PyData × PyData)} {z : PyData} {v : V} (h : DatKv K F kv kvs) (e : valKD kvs k = some z) (ev : valV kv k = some v) : Dat K F v z := by
  rcases kv_get (k := k) h with ⟨_, b⟩ | ⟨v', x, a, b, c⟩
  · rw [e] at b; cases b
  · rw [e] at b; rw [ev] at a; cases a; cases b; exact c
theorem snd_get {td ty : TE} {wd wk : DE} (hd : Snd K td wd) (hk : Snd K ty wk) : Snd K (tDGet td ty) (dGetD wd wk) := ⟨fun W ρ σ H P Q S h q => by
  refine hd.go W ρ σ H _ _ S h fun r1 v1 H1 s1 e1 p1 => ?_
  cases r1 with
  | bag => exact p1.elim
  | d x f =>
    refine hk.go W ρ σ H1 _ _ (S.step s1) p1 fun r2 v2 H2 s2 e2 p2 => ?_
    cases r2 with
    | bag => exact p2.elim
    | d y g =>
      cases x with
      | dict kvs =>
        obtain ⟨k, ek, z, ez, p⟩ := p2
        obtain ⟨rfl, fl, ev⟩ := keyX_is ek
        cases ER.flat (S.step s1) s2 fl e2
        obtain ⟨a, kv, rfl, at_a, _, ⟨F, sub, df⟩, dg, dw⟩ := (e1.step s2 S.now s1).dict
        obtain ⟨v, ev2⟩ : ∃ v, valV kv k = some v := by
          rcases kv_get (k := k) df with ⟨_, b⟩ | ⟨v, x, a, _, _⟩
          · rw [ez] at b; cases b
          · exact ⟨v, a⟩
        refine ⟨a, v, rfl, by rw [ev, ← ev2]; exact DGet.k at_a, q _ v H2 (s1.trans s2) (er_of ?_ fun b => ?_) p⟩
        · cases ef : f.parts with
          | true => exact Dat.up resg_w (kv_val (dg ef) ez ev2)
          | false =>
            have : f = .wk := by cases f <;> first | rfl | cases ef
            exact kv_val (dw this) ez ev2
        · rw [Bool.or_eq_true] at b
          rcases b with b | b
          · exact kv_val (dg b) ez ev2
          · have d0 : Dat K (res (okw W) H2) v z := by
              cases ef : f.parts with
              | true => exact Dat.up resg_w (kv_val (dg ef) ez ev2)
              | false =>
                have : f = .wk := by cases f <;> first | rfl | cases ef
                exact kv_val (dw this) ez ev2
            exact pure_g S (s1.trans s2) b d0
      | _ => exact p2.elim⟩
theorem pd_get {X : Cx} {o i : Expr} {pos : Pos} {td ty : TE} {wd wk : DE} (hu : X.A.units + 64 < cLine) (ho : PD X o td wd) (hi : PD X i ty wk) (hs : NoSl i := by exact fun _ _ => rfl) : PD X (.Subscript o i pos) (tDGet td ty) (dGetD wd wk) := ⟨pe_dget (by omega) ho.pe hi.pe hs, snd_get ho.snd hi.snd⟩
/-! ### k in d -/
def inKD (neg : Bool) (x y : PyData) (P : DK) : Prop := match x with
  | .dict kvs => ∃ k, keyX y = some k ∧ P (atom (.bool (if neg then !(valKD kvs k).isSome else (valKD kvs k).isSome)))
  | _ => False
def dInD (neg : Bool) (wk wd : DE) : DE := fun ρ P => wk ρ fun r1 => onD r1 fun y _ => wd ρ fun r2 => onD r2 fun x _ => inKD neg x y P
theorem snd_in {td ty : TE} {wd wk : DE} (hk : Snd K ty wk) (hd : Snd K td wd) : Snd K (tDIn ty td) (dInD false wk wd) := ⟨fun W ρ σ H P Q S h q => by
  refine hk.go W ρ σ H _ _ S h fun r1 v1 H1 s1 e1 p1 => ?_
  cases r1 with
  | bag => exact p1.elim
  | d y g =>
    refine hd.go W ρ σ H1 _ _ (S.step s1) p1 fun r2 v2 H2 s2 e2 p2 => ?_
    cases r2 with
    | bag => exact p2.elim
    | d x f =>
      cases x with
      | dict kvs =>
        obtain ⟨k, ek, p⟩ := p2
        obtain ⟨rfl, fl, ev⟩ := keyX_is ek
        cases ER.flat S s1 fl e1
        obtain ⟨a, kv, rfl, at_a, _, ⟨F, sub, df⟩, dg, dw⟩ := e2.dict
        refine ⟨a, _, rfl, by rw [ev]; exact DGet.k at_a, ?_⟩
        have e3 : (valV kv k).isSome = (valKD kvs k).isSome := by
          rcases kv_get (k := k) df with ⟨x, b⟩ | ⟨v, x, a, b, _⟩
          · rw [x, b]; rfl
          · rw [a, b]; rfl
        rw [e3]
        exact q _ _ H2 (s1.trans s2) er_bl p
      | _ => exact p2.elim⟩
theorem snd_notin {td ty : TE} {wd wk : DE} (hk : Snd K ty wk) (hd : Snd K td wd) : Snd K (tDNotIn ty td) (dInD true wk wd) := ⟨fun W ρ σ H P Q S h q => by
  refine hk.go W ρ σ H _ _ S h fun r1 v1 H1 s1 e1 p1 => ?_
  cases r1 with
  | bag => exact p1.elim
  | d y g =>
    refine hd.go W ρ σ H1 _ _ (S.step s1) p1 fun r2 v2 H2 s2 e2 p2 => ?_
    cases r2 with
    | bag => exact p2.elim
    | d x f =>
      cases x with
      | dict kvs =>
        obtain ⟨k, ek, p⟩ := p2
        obtain ⟨rfl, fl, ev⟩ := keyX_is ek
        cases ER.flat S s1 fl e1
        obtain ⟨a, kv, rfl, at_a, _, ⟨F, sub, df⟩, dg, dw⟩ := e2.dict
        refine ⟨a, _, rfl, by rw [ev]; exact DGet.k at_a, ?_⟩
        have e3 : (valV kv k).isSome = (valKD kvs k).isSome := by
          rcases kv_get (k := k) df with ⟨x, b⟩ | ⟨v, x, a, b, _⟩
          · rw [x, b]; rfl
          · rw [a, b]; rfl
        rw [e3]
        exact q _ _ H2 (s1.trans s2) er_bl p
      | _ => exact p2.elim⟩
theorem pd_inD {X : Cx} {o i : Expr} {pos : Pos} {td ty : TE} {wd wk : DE} (hu : X.A.units + 64 < cLine) (hi : PD X i ty wk) (ho : PD X o td wd) (hm : behindInMarks .In o = false := by rfl) : PD X (.Compare i [.In] [o] pos) (tDIn ty td) (dInD false wk wd) := ⟨pe_cmp (pc_din (by omega) hi.pe ho.pe) hm, snd_in hi.snd ho.snd⟩
theorem pd_notInD {X : Cx} {o i : Expr} {pos : Pos} {td ty : TE} {wd wk : DE} (hu : X.A.units + 64 < cLine) (hi : PD X i ty wk) (ho : PD X o td wd) (hm : behindInMarks .NotIn o = false := by rfl) : PD X (.Compare i [.NotIn] [o] pos) (tDNotIn ty td) (dInD true wk wd) := ⟨pe_cmp (pc_dnotin (by omega) hi.pe ho.pe) hm, snd_notin hi.snd ho.snd⟩
/-! ### d[k] = e, d one's own -/
def ownK (i : Nat) (ρ : Ro) (k : List (PyData × PyData) → Prop) : Prop := match ρ[i]? with
  | some (.own (.dict kvs)) => k kvs
  | _ => False
theorem ownK_is {i : Nat} {ρ : Ro} {k : List (PyData × PyData) → Prop} (h : ownK i ρ k) : ∃ kvs, ρ[i]? = some (.own (.dict kvs)) ∧ k kvs := by
  unfold ownK at h
  split at h
  · rename_i ds e
    exact ⟨ds, e, h⟩
  · exact h.elim
def dPutK (i : Nat) (wk wv : DE) : DS := fun De ρ => ownK i ρ fun kvs => wv ρ fun r => onD r fun x f => goodF f x = true ∧ wk ρ fun r2 => onD r2 fun y _ => ∃ k, keyX y = some k ∧ kvs.length < 1000000 ∧ De.nx (ρ.set i (.own (.dict (putKD kvs k x))))
theorem snds_put {i : Nat} {ty tv : TE} {wk wv : DE} (hk : Snd K ty wk) (hv : Snd K tv wv) : SndS K (sDPut (tVar i) ty tv) (dPutK i wk wv) := ⟨fun W ρ σ H De D S hw L => by
  obtain ⟨kvs, e, hw⟩ := ownK_is hw
  obtain ⟨p, ep, ok, n0, kv, at_p, all⟩ := sim_own S e
  refine hv.go W ρ σ H _ _ S hw fun r v H1 s1 e1 p1 => ⟨_, ep, ?_⟩
  cases r with
  | bag => exact p1.elim
  | d x f =>
    obtain ⟨g, p1⟩ := p1
    refine hk.go W ρ σ H1 _ _ (S.step s1) p1 fun r2 v2 H2 s2 e2 p2 => ?_
    cases r2 with
    | bag => exact p2.elim
    | d y g2 =>
      obtain ⟨k, ek, few, p2⟩ := p2
      obtain ⟨rfl, fl, ev⟩ := keyX_is ek
      cases ER.flat (S.step s1) s2 fl e2
      have s12 := s1.trans s2
      have S2 := S.step s12
      have at_2 : H2 p = some (.dK kv) := s12.at ok.2.2 at_p
      have all2 := DatKv.up (resg_up s12) all
      have dx := Dat.up (resg_up s2) (ER.gd S s1 e1 g)
      obtain ⟨S3, f3⟩ := sim_mut (y := .dict (putKD kvs k x)) (o := .dK (putK kv k v)) S2 e ep ok n0 ⟨_, upd_same, kv_put all2 dx⟩
      refine ⟨p, _, rfl, by rw [ev]; exact DPut.k at_2 (by rw [kv_len all]; exact small_lt few), L.nx _ _ _ S3 ((Fwd.step s12).trans f3) p2⟩⟩
theorem pd_put {X : Cx} {x : Str} {k e : Expr} {i : Nat} {p0 pos pos' : Pos} {ty tv : TE} {wk wv : DE} (hu : X.A.units + 64 < cLine) (hx : PE X (.Name x p0) (tVar i)) (hk : PD X k ty wk) (hv : PD X e tv wv) (hs : swapsWith e (some (.Subscript (.Name x p0) k pos')) pos.line X.env = pure false := by rfl) :
    PDS X (.Assign [.Subscript (.Name x p0) k pos'] e pos) (sDPut (tVar i) ty tv) (dPutK i wk wv) := ⟨ps_dput (by omega) hx hk.pe hv.pe hs, snds_put hk.snd hv.snd⟩
/-! ### {k: e} -/
def dDicV (wk wv : DE) : DE := fun ρ P => wk ρ fun rk => onD rk fun y _ => wv ρ fun rv => onD rv fun x f => ∃ k, keyX y = some k ∧ goodF f x = true ∧ P (.d (.dict [(keyD k, x)]) .fr)
theorem snd_dicV {tk tv : TE} {wk wv : DE} (hk : Snd K tk wk) (hv : Snd K tv wv) : Snd K (tDisp [(tk, tv)]) (dDicV wk wv) := ⟨fun W ρ σ H P Q S hw q p np => by
  have S1 : Sim K (hideW W p) ρ σ (upd H p (.dK [])) := sim_hide S np
  have ne := (S.new np).2.1
  refine hk.go (hideW W p) ρ σ _ _ _ S1 hw fun rk vk H1 s1 e1 p1 => ?_
  cases rk with
  | bag => exact p1.elim
  | d y g =>
    refine hv.go (hideW W p) ρ σ _ _ _ (S1.step s1) p1 fun r v H2 s2 e2 p2 => ?_
    cases r with
    | bag => exact p2.elim
    | d x f =>
      obtain ⟨k, ek, gx, p2⟩ := p2
      obtain ⟨rfl, fl, ev⟩ := keyX_is ek
      cases ER.flat S1 s1 fl e1
      have s12 : Bu W.β (upd H p (.dK [])) H2 := s1.trans s2
      have dx := ER.gd (S1.step s1) s2 e2 gx
      refine ⟨s12.at ne upd_same, [(k, v)], by rw [ev]; rfl, by show 1 ≤ 15; decide, ?_⟩
      refine q (.d (.dict [(keyD k, x)]) .fr) _ _ (bu_over np ne s12) ⟨p, rfl, np, [(k, v)], upd_same, .cons (Dat.up (res_up fun a o ok e => ?_) dx) .nil⟩ p2
      have ⟨k1, k2⟩ := hide_okg ok
      exact ⟨⟨k1, k2⟩, by rw [upd_ne k2]; exact e⟩⟩
theorem pd_dicV {X : Cx} {ke e : Expr} {pos : Pos} {tk tv : TE} {wk wv : DE} (hk : PD X ke tk wk) (h : PD X e tv wv) : PD X (.Dict [some ke] [e] pos) (tDisp [(tk, tv)]) (dDicV wk wv) :=
  ⟨pe_disp (pps_cons hk.pe h.pe pps_nil) rfl rfl (by intro h; cases h) (by show 1 ≤ 15; decide), snd_dicV hk.snd h.snd⟩
/-! ### x = xs.pop(0) -/
def dPop0 (j i : Nat) : DS := fun De ρ => ownL i ρ fun ds => match ds with
  | x :: es => De.nx ((ρ.set i (.own (.list es))).set j (.dat x))
  | [] => False
theorem snds_pop0 {i j : Nat} : SndS K (tAsg (tBM K "list" rPopAt (tVar i) (tCons (tC (.int 0)) tNil)) (gName j)) (dPop0 j i) := ⟨fun W ρ σ H De D S hw L => by
  obtain ⟨ds, e, hw⟩ := ownL_is hw
  obtain ⟨p, xs, ep, ok, n0, at_p, all⟩ := own_list S e
  cases ds with
  | nil => exact hw.elim
  | cons x es =>
    cases all with
    | @cons v vs _ _ dv rest =>
      refine ⟨_, ep, tyv_list at_p, p, v :: vs, 0, 0, v, rfl, rfl, at_p, by decide, by decide, ?_, rfl, ?_⟩
      · unfold seqIndex?
        simp
      · obtain ⟨S2, f2⟩ := mut_list (es := es) S e ep ok n0 rest
        obtain ⟨S3, f3, _⟩ := set_good (i := j) S2 (Bu.refl _ _) (Dat.up (res_up f2) dv)
        exact L.nx _ _ _ S3 (f2.trans f3) hw⟩
theorem pd_pop0 {X : Cx} {x y : Str} {i j : Nat} {z : Expr} {p0 p1 p2 pos pos' : Pos} (hN : X.N.Nodup) (hi : X.N[j]? = some y) (hx : Loc X.env.scope y) (hv : PE X (.Name x p0) (tVar i)) (hz : PE X z (tC (.int 0)))
    (hbase : attributeBase (.Name x p0) "pop" X.env (eval (.Name x p0) X.env) = eval (.Name x p0) X.env := by rfl)
    (hfew : ((backTo p2 (starEach [z] X.env)).all (fun x => !x.1) && (backToKw p2 (keywordEach [] X.env)).all (fun x => x.1.isSome) && decide (([z] : List Expr).length + ([] : List Keyword).length + (if ([] : List Keyword).isEmpty then 0 else 1) < 30)) = true := by rfl)
    (hline : (p1.endLine == p2.line) = true := by rfl) (h1 : starEach [z] X.env = (false, eval z X.env) :: starEach [] X.env := by rfl) (hpl : (backTo p2 (starEach [] X.env)).any (·.1) = false := by rfl)
    (hs : swapsWith (.Call (.Attribute (.Name x p0) "pop" p1) [z] [] p2) (some (.Name y pos')) pos.line X.env = pure false := by rfl)
    (hf : X.fn y = true ∨ X.env.scope.names.lookup y = some .local := by first | exact .inl rfl | exact .inr rfl | assumption) :
    PDS X (.Assign [.Name y pos'] (.Call (.Attribute (.Name x p0) "pop" p1) [z] [] p2) pos) (tAsg (tBM X.K "list" rPopAt (tVar i) (tCons (tC (.int 0)) tNil)) (gName j)) (dPop0 j i) :=
  ⟨ps_set hN hi hx (pe_bm PySem.F.plainAttrs_list PySem.F.slot_list_pop PySem.F.type_list_pop mt_popAt hv (pa_cons hz pa_nil h1) hbase hfew hline h1 hpl) hs hf, snds_pop0⟩
end
end Pd

/-! D19: two lists or dicts of one's own at once -/
namespace Pd
open PySem PySem.Spec PyProof.Rows L2 Vd
open Classical
def ownPure : PyData → Bool
  | .list ds => pures ds
  | .dict kvs => kvs.all fun q => pure_ q.2
  | _ => false
def parOO (i j : Nat) (rs : List Dv) (ρ : Ro) (P : Ro → Prop) : Prop := match rs with
  | [.d x .fr, .d y .fr] => ownPure x = true ∧ ownPure y = true ∧ P ((ρ.set i (.own x)).set j (.own y))
  | _ => False
section
variable {K : PySem.W.Frag}
theorem kv_pure {F F' : Hp} (s : ∀ q o, F q = some o → Tup o → F' q = some o) : ∀ {kv : List (Key × V)} {kvs : List (PyData × PyData)}, (kvs.all fun q => pure_ q.2) = true → DatKv K F kv kvs → DatKv K F' kv kvs
  | _, _, _, .nil => .nil
  | _, _, h, .cons a b => by
    rw [List.all_cons, Bool.and_eq_true] at h
    exact .cons (pure_up s h.1 a) (kv_pure s h.2 b)
theorem cell_pure {F F' G : Hp} {p : Addr} {x : PyData} (s : ∀ q o, F q = some o → Tup o → F' q = some o) (pu : ownPure x = true) (c : Cell K F G p x) : Cell K F' G p x := by
  cases x with
  | list ds => obtain ⟨vs, e, d⟩ := c; exact ⟨vs, e, pures_up s pu d⟩
  | dict kvs => obtain ⟨kv, e, d⟩ := c; exact ⟨kv, e, kv_pure s pu d⟩
  | _ => exact c.elim
theorem cell_in {F G G' : Hp} {p : Addr} {x : PyData} (e : G' p = G p) (c : Cell K F G p x) : Cell K F G' p x := by
  cases x with
  | list ds => obtain ⟨vs, e1, d⟩ := c; exact ⟨vs, e.trans e1, d⟩
  | dict kvs => obtain ⟨kv, e1, d⟩ := c; exact ⟨kv, e.trans e1, d⟩
  | _ => exact c.elim
theorem set_pureX {W : Wd} {ρ : Ro} {σ : L2.St} {G G1 : Hp} {i : Nat} {p : Addr} {x : PyData} {F : Hp} (S : Sim K W ρ σ G) (s : Bu W.β G G1) (n : G p = none) (c : Cell K F G1 p x) (pu : ownPure x = true)
    (sub : ∀ q o, F q = some o → Tup o → okw W q ∧ ¬ IsOwn ρ σ q ∧ G1 q = some o) : Sim K W (ρ.set i (.own x)) (σ.set i (some (.ref p))) G1 ∧ Fwd W ρ σ G (ρ.set i (.own x)) (σ.set i (some (.ref p))) G1 := by
  have ok := S.okg_new n
  obtain ⟨o0, e0, no0⟩ := c.has
  refine sim_set (i := i) (s := .own x) (u := some (.ref p)) S s (fun y q z1 z2 => by cases z2; exact n) ⟨p, rfl, ok.1, (S.new n).1, cell_pure (fun q o h t => ?_) pu c⟩
  obtain ⟨a, b, c'⟩ := sub q o h t
  refine res_at.mpr ⟨⟨a, fun z => ?_⟩, c'⟩
  rcases own_set (W := W) z with z | ⟨y, _, e1⟩
  · exact b z
  · cases e1
    rw [e0] at c'
    cases c'
    exact no0 t
theorem fr_cell {W : Wd} {ρ : Ro} {σ : L2.St} {H H1 : Hp} {v : V} {x : PyData} (e : ER K W ρ σ H H1 v (.d x .fr)) : ∃ p, v = .ref p ∧ H p = none ∧ Cell K (res (okg W ρ σ) H1) H1 p x := by
  obtain ⟨p, e1, n, c⟩ := e
  exact ⟨p, e1, n, c.up resgp_g fun o z => z⟩
theorem two_apart {W : Wd} {ρ : Ro} {σ : L2.St} {H H1 : Hp} {vs : List V} {r1 r2 : Dv} (h : ERs K W ρ σ H H1 vs [r1, r2]) : ∃ u v, vs = [u, v] ∧ ER K W ρ σ H H1 u r1 ∧ ER K W ρ σ H H1 v r2 ∧ (∀ p, frAt r1 u p → ¬ frAt r2 v p) := by
  cases h with
  | @cons u _ _ _ a ap h =>
    cases h with
    | @cons v _ _ _ b bp h =>
      cases h
      exact ⟨u, v, rfl, a, b, fun p f g => ap p 0 _ _ f rfl rfl g⟩
theorem snds_parOO {i j : Nat} {ta : TA} {wa : DA} (ij : i ≠ j) (h : SndA K ta wa) : SndS K (tPar i j ta) (dPar (parOO i j) wa) := ⟨fun W ρ σ H De D S hw L =>
  h.go W ρ σ H _ _ S hw fun rs vs H1 s1 e1 p1 => by
    unfold parOO at p1
    split at p1
    · rename_i x y
      obtain ⟨u, v, rfl, q1, q2, a12⟩ := two_apart e1
      obtain ⟨px, py, p1⟩ := p1
      obtain ⟨a, rfl, na, ca⟩ := fr_cell q1
      obtain ⟨b, rfl, nb, cb⟩ := fr_cell q2
      have ab : a ≠ b := fun e => a12 a rfl (by rw [e]; rfl)
      obtain ⟨oa, ea, noa⟩ := ca.has
      obtain ⟨ob, eb, nob⟩ := cb.has
      have x1 : Bu W.β H (less (fun q => q = b) H1) := bu_less (fun q => q = b) s1 fun p z => by rw [z]; exact nb
      have x2 : Bu W.β (less (fun q => q = b) H1) H1 := Bu.of fun p o e => by
        by_cases z : p = b
        · rw [less_yes (D := fun q => q = b) z] at e; cases e
        · rwa [less_no (D := fun q => q = b) z] at e
      have tupNe : ∀ {q : Addr} {o : HO} {r : Addr} {o' : HO}, H1 q = some o → Tup o → H1 r = some o' → ¬ Tup o' → q ≠ r := fun {q o r o'} e t e2 n z => by
        rw [z, e2] at e
        cases e
        exact n t
      obtain ⟨S1, f1⟩ := set_pureX (i := i) S x1 na (cell_in (less_no (D := fun q => q = b) ab) ca) px fun q o e t => ⟨(res_at.mp e).1.1, (res_at.mp e).1.2, by
        rw [less_no (D := fun q => q = b) (tupNe (res_at.mp e).2 t eb nob)]
        exact (res_at.mp e).2⟩
      have own1 : ∀ q o, H1 q = some o → Tup o → ¬ IsOwn ρ σ q → ¬ IsOwn (ρ.set i (.own x)) (σ.set i (some (.ref a))) q := fun q o e t no z => by
        rcases own_set (W := W) z with z | ⟨y, _, e1⟩
        · exact no z
        · cases e1
          exact tupNe e t ea noa rfl
      obtain ⟨S2, f2⟩ := set_pureX (i := j) S1 x2 (less_yes (D := fun q => q = b) rfl) cb py fun q o e t => ⟨(res_at.mp e).1.1, own1 q o (res_at.mp e).2 t (res_at.mp e).1.2, (res_at.mp e).2⟩
      exact ⟨_, _, rfl, L.nx _ _ _ S2 (f1.trans f2) p1⟩
    · exact p1.elim⟩
end
section
variable {X : Cx} {a b : Expr} {pos : Pos} {tA : TA} {wA : DA} {i j : Nat} {x y : Str} {px py pt : Pos}
theorem pd_parOO {kt k2 pt2} (hc : X.calm = true) (hN : X.N.Nodup) (hi : X.N[i]? = some x) (hj : X.N[j]? = some y) (hij : i ≠ j) (hx : X.env.scope.names.lookup x = some .local) (hy : X.env.scope.names.lookup y = some .local) (ha : PDA X [a, b] tA wA)
    (hw : swappedStores [.Tuple [.Name x px, .Name y py] kt pt] (.Tuple [a, b] k2 pt2) X.env = pure (some [x, y])) (hs : swapsWithSole [.Tuple [.Name x px, .Name y py] kt pt] (.Tuple [a, b] k2 pt2) pos.line X.env = pure false := by rfl) :
    PDS X (.Assign [.Tuple [.Name x px, .Name y py] kt pt] (.Tuple [a, b] k2 pt2) pos) (tPar i j tA) (dPar (parOO i j) wA) := ⟨ps_par hc hN hi hj hij hx hy ha.pa hw hs, snds_parOO hij ha.snd⟩
end
end Pd

namespace Cm
open PySem PySem.Spec PyProof.Rows L2 Vd Pd
/-! C12: ways -/
/-! start_of -/
abbrev N_start_of : List Str := ["hall", "arc", "kind", "where"]
def ws_start_of : DS := (dSeq (dAsg (dVar 1) (wgTup 2 (wgCons (fun r ρ P => asgD 2 r ρ P) (wgCons (fun r ρ P => asgD 3 r ρ P) wgNil))))
  (dSeq (dIf (dTest (dOp wEq (dVar 2) (dC (.str "next")))) (dRet (dVar 3)) dNext)
  (dRet (dOp wIx (dOp wIx (dOp wIx (dVar 0) (dC (.int 1))) (dVar 3)) (dIfE (dTest (dOp wEq (dVar 2) (dC (.str "down")))) (dC (.int 0)) (dC (.int 1)))))))
abbrev W_start_of : WF := runD N_start_of ws_start_of
/-! is_count -/
abbrev N_is_count : List Str := ["thing"]
def ws_is_count : DS := (dRet (dAndV (dOwn 1 V_is_integer (dCons (dVar 0) dNil)) (dOp wGe (dVar 0) (dC (.int 0)))))
abbrev W_is_count : WF := runD N_is_count ws_is_count
def V_start_of : WF := fun as P => ∃ (h : Hall) (a : Arc), as = [.dat (hallD h), .dat (arcD a)] ∧ ArcOk h a ∧ P (atom (.str (startH h a)))
theorem w_start_of {as : List Sl} {P : DK} (hv : V_start_of as P) : W_start_of as P := by
  obtain ⟨h, a, rfl, ok, p⟩ := hv
  cases a with
  | next x => exact ⟨rfl, rfl, rfl, rfl, rfl, p⟩
  | down j => exact ⟨rfl, rfl, rfl, rfl, rfl, _, rfl, _, belt_at ok, _, rfl, p⟩
  | up j => exact ⟨rfl, rfl, rfl, rfl, rfl, _, rfl, _, belt_at ok, _, rfl, p⟩
def isCountX : PyData → Bool
  | .int i => decide (0 ≤ i)
  | _ => false
def V_is_count : WF := fun as P => ∃ d : PyData, as = [.dat d] ∧ P (atom (.bool (isCountX d)))
theorem w_is_count {as : List Sl} {P : DK} (hv : V_is_count as P) : W_is_count as P := by
  obtain ⟨d, rfl, p⟩ := hv
  refine ⟨rfl, d, rfl, ?_⟩
  cases d <;> exact p
/-! arcs of any value -/
def arcNextX (h : Hall) : PyData → Option Arc
  | .str x => if x ∈ namesH h then some (.next x) else none
  | _ => none
def arcNumX (h : Hall) (k : Str) : PyData → Option Arc
  | .int i => if 0 ≤ i ∧ i < h.bs.length then (if k = "down" then some (.down i.toNat) else if k = "up" then some (.up i.toNat) else none) else none
  | _ => none
def arcKW (h : Hall) (k : Str) (w : PyData) : Option Arc := if k = "next" then arcNextX h w else arcNumX h k w
def arcOfX (h : Hall) : PyData → Option Arc
  | .tuple [.str k, w] => arcKW h k w
  | _ => none
theorem arcOf_is {h : Hall} {d : PyData} {a : Arc} (e : arcOfX h d = some a) : d = arcD a ∧ ArcOk h a := by
  unfold arcOfX at e
  split at e
  · rename_i k w
    unfold arcKW at e
    split at e
    · rename_i hk
      subst hk
      unfold arcNextX at e
      split at e
      · split at e
        · rename_i m
          cases e
          exact ⟨rfl, m⟩
        · cases e
      · cases e
    · unfold arcNumX at e
      split at e
      · rename_i i
        split at e
        · rename_i hi
          have ei : ((i.toNat : Nat) : Int) = i := by omega
          split at e
          · rename_i hk
            subst hk
            cases e
            exact ⟨by show PyData.tuple [.str "down", .int i] = .tuple [.str "down", .int ((i.toNat : Nat) : Int)]; rw [ei], by show i.toNat < h.bs.length; omega⟩
          · split at e
            · rename_i hk
              subst hk
              cases e
              exact ⟨by show PyData.tuple [.str "up", .int i] = .tuple [.str "up", .int ((i.toNat : Nat) : Int)]; rw [ei], by show i.toNat < h.bs.length; omega⟩
            · cases e
        · cases e
      · cases e
  · cases e
theorem arcOf_next (h : Hall) (x : Str) : arcOfX h (.tuple [.str "next", .str x]) = if x ∈ namesH h then some (.next x) else none := by
  show arcKW h "next" (.str x) = _
  unfold arcKW
  rw [if_pos rfl]
  rfl
theorem arcOf_num (h : Hall) {k : Str} (i : Int) (hk : k ≠ "next") : arcOfX h (.tuple [.str k, .int i]) = if 0 ≤ i ∧ i < h.bs.length then (if k = "down" then some (.down i.toNat) else if k = "up" then some (.up i.toNat) else none) else none := by
  show arcKW h k (.int i) = _
  unfold arcKW
  rw [if_neg hk]
  rfl
theorem arcOf_arc {h : Hall} {a : Arc} (ok : ArcOk h a) : arcOfX h (arcD a) = some a := by
  cases a with
  | next x =>
    have m : x ∈ namesH h := ok
    exact (arcOf_next h x).trans (if_pos m)
  | down j =>
    have lt : j < h.bs.length := ok
    refine (arcOf_num h (j : Int) (by decide +kernel)).trans ?_
    rw [if_pos (by omega), if_pos rfl]
    rfl
  | up j =>
    have lt : j < h.bs.length := ok
    refine (arcOf_num h (j : Int) (by decide +kernel)).trans ?_
    rw [if_pos (by omega), if_neg (by decide +kernel), if_pos rfl]
    rfl
theorem arcNum_some (h : Hall) {k : Str} (i : Int) (hk : k ≠ "next") : (arcOfX h (.tuple [.str k, .int i])).isSome = (decide (k ∈ (["down", "up"] : List Str)) && (decide (0 ≤ i) && decide (i < (h.bs.length : Nat)))) := by
  rw [arcOf_num h i hk]
  by_cases h1 : k = "down"
  · subst h1
    rw [decide_eq_true (p := ("down" : Str) ∈ (["down", "up"] : List Str)) (.head _), Bool.true_and]
    by_cases h2 : 0 ≤ i ∧ i < h.bs.length
    · rw [if_pos h2, if_pos rfl, decide_eq_true h2.1, decide_eq_true h2.2]; rfl
    · rw [if_neg h2]
      by_cases h3 : 0 ≤ i
      · rw [decide_eq_true h3, decide_eq_false fun z => h2 ⟨h3, z⟩]; rfl
      · rw [decide_eq_false h3]; rfl
  · by_cases h1' : k = "up"
    · subst h1'
      rw [decide_eq_true (p := ("up" : Str) ∈ (["down", "up"] : List Str)) (.tail _ (.head _)), Bool.true_and]
      by_cases h2 : 0 ≤ i ∧ i < h.bs.length
      · rw [if_pos h2, if_neg h1, if_pos rfl, decide_eq_true h2.1, decide_eq_true h2.2]; rfl
      · rw [if_neg h2]
        by_cases h3 : 0 ≤ i
        · rw [decide_eq_true h3, decide_eq_false fun z => h2 ⟨h3, z⟩]; rfl
        · rw [decide_eq_false h3]; rfl
    · rw [if_neg h1, if_neg h1', decide_eq_false (p := k ∈ (["down", "up"] : List Str)) (fun z => by
        simp only [List.mem_cons, List.not_mem_nil, or_false] at z
        exact z.elim h1 h1'), Bool.false_and]
      split <;> rfl
theorem arcNo (h : Hall) {k : Str} {w : PyData} (hk : k ≠ "next") (hw : ∀ i, w ≠ .int i) : arcOfX h (.tuple [.str k, w]) = none := by
  show arcKW h k w = none
  unfold arcKW
  rw [if_neg hk]
  cases w with
  | int i => exact absurd rfl (hw i)
  | _ => rfl
/-! is_arc -/
abbrev N_is_arc : List Str := ["hall", "thing", "kind", "where", "machine"]
def ws_is_arc : DS := (dSeq (dIf (dOr (dNot (dTru (dOwn 2 V_is_tuple_of (dCons (dVar 1) (dCons (dC (.int 2)) dNil))))) (dTest (dNotTy "str" (dOp wIx (dVar 1) (dC (.int 0)))))) (dRet (dC (.bool false))) dNext)
  (dSeq (dAsg (dVar 1) (wgTup 2 (wgCons (fun r ρ P => asgD 2 r ρ P) (wgCons (fun r ρ P => asgD 3 r ρ P) wgNil))))
  (dSeq (dIf (dTest (dOp wEq (dVar 2) (dC (.str "next")))) (dRet (dAndV (dOwn 1 V_is_name (dCons (dVar 3) dNil)) (dOp (wIn false) (dVar 3) (dLc (dIter (dOp wIx (dVar 0) (dC (.int 0)))) (fun r ρ P => asgD 4 r ρ P) dYes (dOp wIx (dVar 4) (dC (.int 0))) [4])))) dNext)
  (dRet (dAndV (dOp (wIn false) (dVar 2) (dTup (dCons (dC (.str "down")) (dCons (dC (.str "up")) dNil)))) (dAndV (dOwn 1 V_is_count (dCons (dVar 3) dNil)) (dOp wLt (dVar 3) (dCall wLen (dCons (dOp wIx (dVar 0) (dC (.int 1))) dNil)))))))))
abbrev W_is_arc : WF := runD N_is_arc ws_is_arc
def V_is_arc : WF := fun as P => ∃ (h : Hall) (d : PyData), as = [.dat (hallD h), .dat d] ∧ Few h ∧ (∀ x ∈ namesH h, isNameX (.str x) = true) ∧ txt d = true ∧ P (atom (.bool (arcOfX h d).isSome))
theorem w_is_arc {as : List Sl} {P : DK} (hv : V_is_arc as P) : W_is_arc as P := by
  obtain ⟨h, d, rfl, few, nms, tx, p⟩ := hv
  refine ⟨rfl, d, 2, rfl, ?_⟩
  match d, tx, p with
  | .tuple [a, w], tx, p =>
    have tw : ∀ z, w = .str z → z.length ≤ 1000000 := fun z e => by
      subst e
      simp only [txt, txts, Bool.and_eq_true] at tx
      exact of_decide_eq_true tx.2.1.1
    refine ⟨_, rfl, ?_⟩
    cases a with
    | str k =>
      refine ⟨rfl, rfl, rfl, rfl, rfl, ?_⟩
      refine iteD (fun hk => ?_) (fun hk => ?_)
      · subst hk
        refine ⟨rfl, w, rfl, tw, ?_⟩
        cases w with
        | str x =>
          cases hn : isNameX (.str x) with
          | false =>
            have nm : x ∉ namesH h := fun m => by rw [nms x m] at hn; cases hn
            have e : arcOfX h (.tuple [.str "next", .str x]) = none := by rw [arcOf_next, if_neg nm]
            rw [e] at p
            exact p
          | true =>
            refine ⟨_, rfl, rfl, rfl, ?_⟩
            refine lc_map machD (fun m => .str m.1) h.ms (by have := few.1; omega) (fun m _ acc k' few' h' => ⟨rfl, _, rfl, rfl, few', h'⟩) ?_
            have e : h.ms.map (fun m => PyData.str m.1) = strsD (namesH h) := by
              unfold strsD namesH
              rw [List.map_map]
              rfl
            rw [e]
            refine ⟨rfl, flat_strs _, ?_⟩
            show P (atom (.bool (inX (.str x) (strsD (namesH h)))))
            rw [inX_strs]
            have e2 : (arcOfX h (.tuple [.str "next", .str x])).isSome = decide (x ∈ namesH h) := by
              rw [arcOf_next]
              by_cases m : x ∈ namesH h
              · rw [if_pos m, decide_eq_true m]; rfl
              · rw [if_neg m, decide_eq_false m]; rfl
            rw [e2] at p
            exact p
        | _ => exact p
      · refine ⟨leb rfl, rfl, rfl, ?_⟩
        show (if inX (.str k) (strsD ["down", "up"]) = true then _ else _)
        rw [inX_strs]
        refine iteD (fun hm => ⟨rfl, w, rfl, ?_⟩) (fun hm => ?_)
        · cases w with
          | int i =>
            have e := arcNum_some h i hk
            rw [decide_eq_true hm, Bool.true_and] at e
            rw [e] at p
            refine iteD (fun h0 => ?_) (fun h0 => ?_)
            · rw [decide_eq_true h0, Bool.true_and] at p
              refine ⟨_, rfl, ?_⟩
              show P (atom (.bool (decide (i < (((h.bs.map beltD).length : Nat) : Int)))))
              rw [List.length_map]
              exact p
            · rw [decide_eq_false h0, Bool.false_and] at p
              exact p
          | _ =>
            rw [arcNo h hk (by intro i z; cases z)] at p
            exact p
        · have e : arcOfX h (.tuple [.str k, w]) = none := by
            cases w with
            | int i =>
              have := arcNum_some h i hk
              rw [decide_eq_false hm, Bool.false_and] at this
              cases hz : arcOfX h (.tuple [.str k, .int i]) with
              | none => rfl
              | some a => rw [hz] at this; cases this
            | _ => exact arcNo h hk (by intro i z; cases z)
          rw [e] at p
          exact p
    | _ => exact p
  | .tuple [], _, p => exact p
  | .tuple [a], _, p =>
    have e : arcOfX h (.tuple [a]) = none := by cases a <;> rfl
    rw [e] at p
    exact p
  | .tuple (a :: b :: c :: r), _, p =>
    have e : arcOfX h (.tuple (a :: b :: c :: r)) = none := by cases a <;> rfl
    rw [e] at p
    have e2 : isTup 2 (.tuple (a :: b :: c :: r)) = false := by
      show decide ((a :: b :: c :: r).length = 2) = false
      exact decide_eq_false (by show ¬ r.length + 1 + 1 + 1 = 2; omega)
    rw [e2]
    exact p
  | .none, _, p => exact p
  | .bool _, _, p => exact p
  | .int _, _, p => exact p
  | .str _, _, p => exact p
  | .list _, _, p => exact p
  | .dict _, _, p => exact p
end Cm

namespace Cm
open PySem PySem.Spec PyProof.Rows L2 Vd Pd
/-! C13: ways of any value -/
theorem lc_map0 {wg : WG} {wt : DT} {we : DE} {ρw : Ro} (g : PyData → PyData) {k : List PyData → Prop} (xs : List PyData) (few : xs.length ≤ 1000000)
    (step : ∀ a ∈ xs, ∀ (acc' : List PyData) (k' : List PyData → Prop), acc'.length < 1000000 → k' (acc' ++ [g a]) → wg (.d a .gd) ρw fun ρ2 => wt ρ2 fun b => if b = true then we ρ2 fun r => onD r fun x fl => goodF fl x = true ∧ acc'.length < 1000000 ∧ k' (acc' ++ [x]) else k' acc')
    (h : k (xs.map g)) : lcL wg wt we ρw xs [] k := by
  have := lc_map (wg := wg) (wt := wt) (we := we) (ρw := ρw) (fun a : PyData => a) g (k := k) xs few step h
  rwa [List.map_id'] at this
def allArcs (h : Hall) : List PyData → Option (List Arc)
  | [] => some []
  | d :: ds => match arcOfX h d with
    | some a => (allArcs h ds).map (a :: ·)
    | none => none
def pathB (h : Hall) : Str → List Arc → Bool
  | _, [] => true
  | x, a :: as => decide (startH h a = x) && pathB h (endH h a) as
def wayB (h : Hall) (x : Str) (ds : List PyData) : Bool := match allArcs h ds with
  | some as => pathB h x as
  | none => false
def isWayX (h : Hall) : PyData → Bool
  | .tuple [.str x, .tuple ds] => decide (x ∈ namesH h) && wayB h x ds
  | _ => false
theorem allArcs_is {h : Hall} : ∀ {ds : List PyData} {as : List Arc}, allArcs h ds = some as → ds = as.map arcD ∧ ∀ a ∈ as, ArcOk h a
  | [], _, e => by cases e; exact ⟨rfl, fun a m => nomatch m⟩
  | d :: ds, as, e => by
    unfold allArcs at e
    split at e
    · rename_i a ea
      rw [Option.map_eq_some_iff] at e
      obtain ⟨bs, e1, rfl⟩ := e
      obtain ⟨e2, o2⟩ := allArcs_is e1
      obtain ⟨e3, o3⟩ := arcOf_is ea
      refine ⟨by rw [e3, e2]; rfl, fun b m => ?_⟩
      cases m with
      | head => exact o3
      | tail _ m => exact o2 b m
    · cases e
theorem allArcs_all {h : Hall} : ∀ ds : List PyData, (ds.map fun d => (arcOfX h d).isSome).all _root_.id = (allArcs h ds).isSome
  | [] => rfl
  | d :: ds => by
    have ih := allArcs_all (h := h) ds
    rw [List.map_cons, List.all_cons, ih]
    show ((arcOfX h d).isSome && (allArcs h ds).isSome) = (match arcOfX h d with | some a => (allArcs h ds).map (a :: ·) | none => none).isSome
    cases arcOfX h d with
    | none => rfl
    | some a => cases allArcs h ds <;> rfl
theorem allArcs_arcs {h : Hall} : ∀ {as : List Arc}, (∀ a ∈ as, ArcOk h a) → allArcs h (as.map arcD) = some as
  | [], _ => rfl
  | a :: as, ok => by
    show (match arcOfX h (arcD a) with | some a => (allArcs h (as.map arcD)).map (a :: ·) | none => none) = _
    rw [arcOf_arc (ok a (.head _)), allArcs_arcs fun b m => ok b (.tail _ m)]
    rfl
theorem eqv_strs : ∀ l r : List Str, PyData.eqv (.list (strsD l)) (.list (strsD r)) = decide (l = r)
  | [], [] => rfl
  | [], y :: r => rfl
  | x :: l, [] => rfl
  | x :: l, y :: r => by
    have ih := eqv_strs l r
    have e : PyData.eqv (.list (strsD (x :: l))) (.list (strsD (y :: r))) = (PyData.eqv (.str x) (.str y) && PyData.eqv (.list (strsD l)) (.list (strsD r))) := by
      simp [PyData.eqv, PyData.eqvAll, strsD]
    rw [e, ih, str_eqv]
    by_cases h1 : x = y
    · subst h1
      rw [decide_eq_true (p := x = x) rfl, Bool.true_and]
      by_cases h2 : l = r
      · subst h2; simp
      · rw [decide_eq_false h2, decide_eq_false fun z => h2 (by injection z)]
    · rw [decide_eq_false h1, Bool.false_and, decide_eq_false fun z => h1 (by injection z)]
theorem path_places (h : Hall) : ∀ (as : List Arc) (x : Str), decide ((x :: as.map (endH h)).dropLast = as.map (startH h)) = pathB h x as
  | [], x => rfl
  | a :: as, x => by
    have ih := path_places h as (endH h a)
    have e : (x :: (a :: as).map (endH h)).dropLast = x :: (endH h a :: as.map (endH h)).dropLast := rfl
    rw [e]
    show decide (x :: (endH h a :: as.map (endH h)).dropLast = startH h a :: as.map (startH h)) = (decide (startH h a = x) && pathB h (endH h a) as)
    rw [← ih]
    by_cases h1 : startH h a = x
    · rw [decide_eq_true h1, Bool.true_and]
      by_cases h2 : (endH h a :: as.map (endH h)).dropLast = as.map (startH h)
      · rw [decide_eq_true h2, decide_eq_true (by rw [h1, h2])]
      · rw [decide_eq_false h2, decide_eq_false fun z => h2 (by injection z)]
    · rw [decide_eq_false h1, Bool.false_and, decide_eq_false fun z => h1 (by injection z with z _; exact z.symm)]
theorem cut_butlast {α : Type} (l : List α) : cutA l none (some (-1 : Int)) = l.dropLast := by
  unfold cutA
  rw [HT.sIx_none, List.drop_zero, Nat.sub_zero]
  have : HT.sIx l.length l.length (some (-1 : Int)) = l.length - 1 := by
    show (if (-1 : Int) < 0 then ((-1 : Int) + (l.length : Int)).toNat else min (-1 : Int).toNat l.length) = _
    rw [if_pos (by decide)]
    omega
  rw [this, List.dropLast_eq_take]
theorem txts_mem : ∀ {ds : List PyData}, txts ds = true → ∀ d ∈ ds, txt d = true
  | x :: xs, h, d, m => by
    simp only [txts, Bool.and_eq_true] at h
    cases m with
    | head => exact h.1
    | tail _ m => exact txts_mem h.2 d m
structure WayIn (h : Hall) (d : PyData) : Prop where
  few : Few h
  names : ∀ x ∈ namesH h, isNameX (.str x) = true
  lay : ∀ x ∈ namesH h, (PyData.str x).canLay0 = true
  bs : ∀ m ∈ h.bs, m.1 ∈ namesH h ∧ m.2.1 ∈ namesH h
  txt : txt d = true
  len : ∀ x ds, d = .tuple [x, .tuple ds] → ds.length ≤ 500000
theorem WayIn.ends {h : Hall} {d : PyData} (w : WayIn h d) {a : Arc} (ok : ArcOk h a) : startH h a ∈ namesH h ∧ endH h a ∈ namesH h := by
  have at_ : ∀ j, j < h.bs.length → beltAt h j ∈ h.bs := fun j lt => by
    unfold beltAt
    rw [List.getD_eq_getElem?_getD, List.getElem?_eq_getElem lt]
    exact List.getElem_mem lt
  cases a with
  | next x => exact ⟨ok, ok⟩
  | down j => exact w.bs _ (at_ j ok)
  | up j => exact ⟨(w.bs _ (at_ j ok)).2, (w.bs _ (at_ j ok)).1⟩
/-! is_way -/
abbrev N_is_way : List Str := ["hall", "thing", "begin", "arcs", "arc", "places"]
def ws_is_way : DS := (dSeq (dIf (dNot (dTru (dOwn 2 V_is_tuple_of (dCons (dVar 1) (dCons (dC (.int 2)) dNil))))) (dRet (dC (.bool false))) dNext)
  (dSeq (dAsg (dVar 1) (wgTup 2 (wgCons (fun r ρ P => asgD 2 r ρ P) (wgCons (fun r ρ P => asgD 3 r ρ P) wgNil))))
  (dSeq (dIf (dOr (dNot (dTru (dOwn 1 V_is_name (dCons (dVar 2) dNil)))) (dOr (dTest (dOp (wIn true) (dVar 2) (dOwn 1 V_names_of (dCons (dVar 0) dNil)))) (dTest (dNotTy "tuple" (dVar 3))))) (dRet (dC (.bool false))) dNext)
  (dSeq (dIf (dNot (dTru (dCall wAll (dCons (dLc (dIter (dVar 3)) (fun r ρ P => asgD 4 r ρ P) dYes (dOwn 2 V_is_arc (dCons (dVar 0) (dCons (dVar 4) dNil))) [4]) dNil)))) (dRet (dC (.bool false))) dNext)
  (dSeq (dSetD 5 (dOp wAdd (dLst (dCons (dVar 2) dNil)) (dLc (dIter (dVar 3)) (fun r ρ P => asgD 4 r ρ P) dYes (dOwn 2 V_end_of (dCons (dVar 0) (dCons (dVar 4) dNil))) [4])))
  (dRet (dOp wEq (dCut (dVar 5) dNo (dSome (dNeg (dC (.int 1))))) (dLc (dIter (dVar 3)) (fun r ρ P => asgD 4 r ρ P) dYes (dOwn 2 V_start_of (dCons (dVar 0) (dCons (dVar 4) dNil))) [4]))))))))
abbrev W_is_way : WF := runD N_is_way ws_is_way
def V_is_way : WF := fun as P => ∃ (h : Hall) (d : PyData), as = [.dat (hallD h), .dat d] ∧ WayIn h d ∧ P (atom (.bool (isWayX h d)))
theorem w_is_way {as : List Sl} {P : DK} (hv : V_is_way as P) : W_is_way as P := by
  obtain ⟨h, d, rfl, wi, p⟩ := hv
  refine ⟨rfl, d, 2, rfl, ?_⟩
  match d, wi, p with
  | .tuple [a, b], wi, p =>
    have ta : ∀ z, a = .str z → z.length ≤ 1000000 := fun z e => by
      have tx := wi.txt
      subst e
      simp only [txt, txts, Bool.and_eq_true] at tx
      exact of_decide_eq_true tx.1.1
    refine ⟨rfl, rfl, rfl, rfl, rfl, rfl, a, rfl, ta, ?_⟩
    cases a with
    | str x =>
      cases hn : isNameX (.str x) with
      | false =>
        have nm : x ∉ namesH h := fun m => by rw [wi.names x m] at hn; cases hn
        have e : isWayX h (.tuple [.str x, b]) = false := by
          cases b with
          | tuple rows =>
            show (decide (x ∈ namesH h) && _) = false
            rw [decide_eq_false nm, Bool.false_and]
          | _ => rfl
        rw [e] at p
        exact p
      | true =>
        refine ⟨rfl, h, rfl, wi.few.1, rfl, flat_strs _, ?_⟩
        show (if (!inX (.str x) (strsD (namesH h))) = true then _ else _)
        rw [inX_strs]
        refine iteN (fun m => ?_) (fun m => ?_)
        · cases b with
          | tuple ds =>
            have l6 := wi.len _ _ rfl
            have tds : txts ds = true := by
              have tx := wi.txt
              simp only [txt, txts, Bool.and_eq_true] at tx
              exact tx.2.1
            refine ⟨rfl, rfl, ?_⟩
            refine lc_map0 (fun d => .bool (arcOfX h d).isSome) ds (by omega) (fun d md acc k' few' nx => ?_) ?_
            · exact ⟨rfl, rfl, h, d, rfl, wi.few, wi.names, txts_mem tds d md, rfl, few', nx⟩
            · refine ⟨_, boolsOf_map (f := fun d => (arcOfX h d).isSome) (fun _ => rfl) ds, ?_⟩
              rw [allArcs_all]
              cases ea : allArcs h ds with
              | none =>
                have e : isWayX h (.tuple [.str x, .tuple ds]) = false := by
                  show (decide (x ∈ namesH h) && wayB h x ds) = false
                  unfold wayB
                  rw [ea, Bool.and_false]
                rw [e] at p
                exact p
              | some as =>
                obtain ⟨rfl, oks⟩ := allArcs_is ea
                rw [List.length_map] at l6
                have e : isWayX h (.tuple [.str x, .tuple (as.map arcD)]) = pathB h x as := by
                  show (decide (x ∈ namesH h) && wayB h x (as.map arcD)) = _
                  unfold wayB
                  rw [ea, decide_eq_true m, Bool.true_and]
                rw [e] at p
                refine ⟨leb rfl, rfl, rfl, ?_⟩
                refine lc_map arcD (fun a => .str (endH h a)) as (by omega) (fun a ma acc k' few' nx => ⟨rfl, rfl, h, a, rfl, oks a ma, rfl, few', nx⟩) ?_
                have e1 : as.map (fun a => PyData.str (endH h a)) = strsD (as.map (endH h)) := by unfold strsD; rw [List.map_map]; rfl
                rw [e1]
                refine ⟨.inl rfl, .inl rfl, ?_, rfl, rfl, rfl, ?_⟩
                · show 1 + (strsD (as.map (endH h))).length ≤ 1000000
                  unfold strsD
                  rw [List.length_map, List.length_map]
                  omega
                · refine lc_map arcD (fun a => .str (startH h a)) as (by omega) (fun a ma acc k' few' nx => ⟨rfl, rfl, h, a, rfl, oks a ma, rfl, few', nx⟩) ?_
                  have e2 : as.map (fun a => PyData.str (startH h a)) = strsD (as.map (startH h)) := by unfold strsD; rw [List.map_map]; rfl
                  have e3 : Pd.cutD ([.str x] ++ strsD (as.map (endH h))) none (some (-1 : Int)) = strsD (x :: as.map (endH h)).dropLast := by
                    show Pd.cutD ((x :: as.map (endH h)).map PyData.str) none (some (-1 : Int)) = _
                    rw [cutD_map, cut_butlast]
                    rfl
                  rw [e2, e3]
                  have inN : ∀ y ∈ (x :: as.map (endH h)).dropLast, y ∈ namesH h := fun y my => by
                    rcases List.mem_cons.mp ((List.dropLast_sublist _).subset my) with q | q
                    · rw [q]; exact m
                    · obtain ⟨a, ma, rfl⟩ := List.mem_map.mp q
                      exact (wi.ends (oks a ma)).2
                  have inS : ∀ y ∈ as.map (startH h), y ∈ namesH h := fun y my => by
                    obtain ⟨a, ma, rfl⟩ := List.mem_map.mp my
                    exact (wi.ends (oks a ma)).1
                  refine ⟨shaped_strs fun y my => wi.lay y (inN y my), shaped_strs fun y my => wi.lay y (inS y my), ?_⟩
                  show P (atom (.bool (PyData.eqv (.list (strsD (x :: as.map (endH h)).dropLast)) (.list (strsD (as.map (startH h)))))))
                  rw [eqv_strs, path_places]
                  exact p
          | _ => exact p
        · have e : isWayX h (.tuple [.str x, b]) = false := by
            cases b with
            | tuple rows =>
              show (decide (x ∈ namesH h) && _) = false
              rw [decide_eq_false m, Bool.false_and]
            | _ => rfl
          rw [e] at p
          exact p
    | _ => exact p
  | .tuple [], _, p => exact p
  | .tuple [a], _, p =>
    have e : isWayX h (.tuple [a]) = false := by cases a <;> rfl
    rw [e] at p
    exact p
  | .tuple (a :: b :: c :: r), _, p =>
    have e : isWayX h (.tuple (a :: b :: c :: r)) = false := by cases a <;> first | rfl | (cases b <;> rfl)
    rw [e] at p
    have e2 : isTup 2 (.tuple (a :: b :: c :: r)) = false := by
      show decide ((a :: b :: c :: r).length = 2) = false
      exact decide_eq_false (by show ¬ r.length + 1 + 1 + 1 = 2; omega)
    rw [e2]
    exact p
  | .none, _, p => exact p
  | .bool _, _, p => exact p
  | .int _, _, p => exact p
  | .str _, _, p => exact p
  | .list _, _, p => exact p
  | .dict _, _, p => exact p
/-! ### a way, once it is one -/
def wayD (x : Str) (as : List Arc) : PyData := .tuple [.str x, .tuple (as.map arcD)]
structure WayOk (h : Hall) (x : Str) (as : List Arc) : Prop where
  name : x ∈ namesH h
  arcs : ∀ a ∈ as, ArcOk h a
  path : pathB h x as = true
theorem isWay_is {h : Hall} {d : PyData} (e : isWayX h d = true) : ∃ x as, d = wayD x as ∧ WayOk h x as := by
  match d, e with
  | .tuple [.str x, .tuple ds], e =>
    have e : (decide (x ∈ namesH h) && wayB h x ds) = true := e
    rw [Bool.and_eq_true] at e
    have m := of_decide_eq_true e.1
    have e2 := e.2
    unfold wayB at e2
    split at e2
    · rename_i as ea
      obtain ⟨rfl, oks⟩ := allArcs_is ea
      exact ⟨x, as, rfl, m, oks, e2⟩
    · cases e2
theorem isWay_of {h : Hall} {x : Str} {as : List Arc} (w : WayOk h x as) : isWayX h (wayD x as) = true := by
  show (decide (x ∈ namesH h) && wayB h x (as.map arcD)) = true
  unfold wayB
  rw [allArcs_arcs w.arcs, decide_eq_true w.name]
  exact w.path
def walkB (h : Hall) (as : List Arc) : Bool := decide (0 < as.length) && (decide ((as.map (endH h)).getLast? = some h.fl) && !decide (h.fl ∈ (as.map (endH h)).dropLast))
def arcsOfD (h : Hall) : PyData → List Arc
  | .tuple [_, .tuple ds] => (allArcs h ds).getD []
  | _ => []
def isWalkX (h : Hall) (d : PyData) : Bool := isWayX h d && walkB h (arcsOfD h d)
theorem arcsOfD_way {h : Hall} {x : Str} {as : List Arc} (w : WayOk h x as) : arcsOfD h (wayD x as) = as := by
  show (allArcs h (as.map arcD)).getD [] = as
  rw [allArcs_arcs w.arcs]
  rfl
theorem atI_last {α : Type} (xs : List α) (z : α) : atI (xs ++ [z]) (-1) = some z := by
  unfold atI ixN
  have l1 : (xs ++ [z]).length = xs.length + 1 := by rw [List.length_append]; rfl
  rw [l1, if_neg (by decide), if_pos (by omega)]
  have e : ((-1 : Int) + ((xs.length + 1 : Nat) : Int)).toNat = xs.length := by omega
  show (xs ++ [z])[((-1 : Int) + ((xs.length + 1 : Nat) : Int)).toNat]? = some z
  rw [e]
  simp
/-! is_walk -/
abbrev N_is_walk : List Str := ["hall", "thing", "ends", "arc"]
def ws_is_walk : DS := (dSeq (dIf (dNot (dTru (dOwn 2 V_is_way (dCons (dVar 0) (dCons (dVar 1) dNil))))) (dRet (dC (.bool false))) dNext)
  (dSeq (dSetD 2 (dLc (dIter (dOp wIx (dVar 1) (dC (.int 1)))) (fun r ρ P => asgD 3 r ρ P) dYes (dOwn 2 V_end_of (dCons (dVar 0) (dCons (dVar 3) dNil))) [3]))
  (dRet (dAndV (dOp wGt (dCall wLen (dCons (dVar 2) dNil)) (dC (.int 0))) (dAndV (dOp wEq (dOp wIx (dVar 2) (dNeg (dC (.int 1)))) (dOp wIx (dVar 0) (dC (.int 2)))) (dOp (wIn true) (dOp wIx (dVar 0) (dC (.int 2))) (dCut (dVar 2) dNo (dSome (dNeg (dC (.int 1)))))))))))
abbrev W_is_walk : WF := runD N_is_walk ws_is_walk
def V_is_walk : WF := fun as P => ∃ (h : Hall) (d : PyData), as = [.dat (hallD h), .dat d] ∧ WayIn h d ∧ P (atom (.bool (isWalkX h d)))
theorem w_is_walk {as : List Sl} {P : DK} (hv : V_is_walk as P) : W_is_walk as P := by
  obtain ⟨h, d, rfl, wi, p⟩ := hv
  refine ⟨rfl, h, d, rfl, wi, ?_⟩
  cases hw : isWayX h d with
  | false =>
    have e : isWalkX h d = false := by unfold isWalkX; rw [hw, Bool.false_and]
    rw [e] at p
    exact p
  | true =>
    obtain ⟨x, as, rfl, w⟩ := isWay_is hw
    have l6 := wi.len _ _ rfl
    rw [List.length_map] at l6
    have e : isWalkX h (wayD x as) = walkB h as := by unfold isWalkX; rw [hw, arcsOfD_way w, Bool.true_and]
    rw [e] at p
    refine ⟨_, rfl, rfl, rfl, ?_⟩
    refine lc_map arcD (fun a => .str (endH h a)) as (by omega) (fun a ma acc k' few' nx => ⟨rfl, rfl, h, a, rfl, w.arcs a ma, rfl, few', nx⟩) ?_
    have e1 : as.map (fun a => PyData.str (endH h a)) = strsD (as.map (endH h)) := by unfold strsD; rw [List.map_map]; rfl
    rw [e1]
    have el : (((strsD (as.map (endH h))).length : Nat) : Int) = (as.length : Nat) := by unfold strsD; rw [List.length_map, List.length_map]
    refine ⟨rfl, ?_⟩
    show (if decide ((0 : Int) < (((strsD (as.map (endH h))).length : Nat) : Int)) = true then _ else _)
    rw [el]
    unfold walkB at p
    refine iteD (fun h0 => ?_) (fun h0 => ?_)
    · have pos : 0 < as.length := by omega
      rw [decide_eq_true pos, Bool.true_and] at p
      obtain ⟨bs, b, rfl⟩ : ∃ bs b, as = bs ++ [b] := by
        rcases List.eq_nil_or_concat as with e | ⟨bs, b, e⟩
        · rw [e] at pos; exact absurd pos (by decide)
        · exact ⟨bs, b, by rw [e]; simp⟩
      have e2 : (bs ++ [b]).map (endH h) = bs.map (endH h) ++ [endH h b] := by rw [List.map_append]; rfl
      rw [e2, List.getLast?_concat, List.dropLast_concat] at p
      have e3 : strsD ((bs ++ [b]).map (endH h)) = strsD (bs.map (endH h)) ++ [.str (endH h b)] := by rw [e2]; unfold strsD; rw [List.map_append]; rfl
      rw [e3]
      refine ⟨_, atI_last _ _, _, rfl, ?_⟩
      have e4 : decide (some (endH h b) = some h.fl) = decide (endH h b = h.fl) := by simp
      rw [e4] at p
      refine iteD (fun hl => ?_) (fun hl => ?_)
      · rw [decide_eq_true hl, Bool.true_and] at p
        have e5 : Pd.cutD (strsD (bs.map (endH h)) ++ [.str (endH h b)]) none (some (-1 : Int)) = strsD (bs.map (endH h)) := by
          rw [← e3]
          unfold strsD
          rw [cutD_map, cut_butlast, e2, List.dropLast_concat]
        refine ⟨_, rfl, rfl, ?_, ?_⟩
        · show (Pd.cutD (strsD (bs.map (endH h)) ++ [.str (endH h b)]) none (some (-1 : Int))).all flatX = true
          rw [e5]
          exact flat_strs _
        · show P (atom (.bool (!inX (.str h.fl) (Pd.cutD (strsD (bs.map (endH h)) ++ [.str (endH h b)]) none (some (-1 : Int))))))
          rw [e5, inX_strs]
          exact p
      · rw [decide_eq_false hl, Bool.false_and] at p
        exact p
    · rw [decide_eq_false (by omega), Bool.false_and] at p
      exact p
/-! ### where a way ends, its indexes -/
def lastH (h : Hall) (x : Str) (as : List Arc) : Str := match as.getLast? with
  | some a => endH h a
  | none => x
def totalH (h : Hall) (as : List Arc) : Int := (as.map (growH h)).sum
def sumsH (h : Hall) : List Arc → List Int := fun as => (List.range (as.length + 1)).map fun k => totalH h (as.take k)
theorem totalH_snoc (h : Hall) (as : List Arc) (a : Arc) : totalH h (as ++ [a]) = totalH h as + growH h a := by
  unfold totalH
  rw [List.map_append, List.sum_append]
  simp
theorem sumsH_snoc (h : Hall) (as : List Arc) (a : Arc) : sumsH h (as ++ [a]) = sumsH h as ++ [totalH h as + growH h a] := by
  unfold sumsH
  rw [List.length_append]
  show (List.range (as.length + 1 + 1)).map _ = _
  rw [List.range_succ, List.map_append]
  congr 1
  · refine List.map_congr_left fun k mk => ?_
    have : k ≤ as.length := by
      have := List.mem_range.mp mk
      omega
    rw [List.take_append_of_le_length this]
  · show [totalH h ((as ++ [a]).take (as.length + 1))] = _
    rw [List.take_of_length_le (by rw [List.length_append]; exact Nat.le_refl _), totalH_snoc]
theorem sumsH_last (h : Hall) : ∀ as : List Arc, ∃ l, sumsH h as = l ++ [totalH h as] := fun as => by
  unfold sumsH
  rw [List.range_succ, List.map_append]
  refine ⟨(List.range as.length).map fun k => totalH h (as.take k), ?_⟩
  show _ ++ [totalH h (as.take as.length)] = _
  rw [List.take_length]
def intsD (l : List Int) : List PyData := l.map PyData.int
theorem intsD_last (h : Hall) (as : List Arc) : atI (intsD (sumsH h as)) (-1) = some (.int (totalH h as)) := by
  obtain ⟨l, e⟩ := sumsH_last h as
  rw [e]
  unfold intsD
  rw [List.map_append]
  exact atI_last _ _
theorem sumsH_len (h : Hall) (as : List Arc) : (sumsH h as).length = as.length + 1 := by
  unfold sumsH
  rw [List.length_map, List.length_range]
/-! end_of_way -/
abbrev N_end_of_way : List Str := ["hall", "way", "begin", "arcs"]
def ws_end_of_way : DS := (dSeq (dAsg (dVar 1) (wgTup 2 (wgCons (fun r ρ P => asgD 2 r ρ P) (wgCons (fun r ρ P => asgD 3 r ρ P) wgNil))))
  (dRet (dIfE (dTru (dVar 3)) (dOwn 2 V_end_of (dCons (dVar 0) (dCons (dOp wIx (dVar 3) (dNeg (dC (.int 1)))) dNil))) (dVar 2))))
abbrev W_end_of_way : WF := runD N_end_of_way ws_end_of_way
/-! indexes -/
abbrev N_indexes : List Str := ["hall", "way", "found", "arc"]
def ws_indexes : DS := (dSeq (dSetO 2 (dLst (dCons (dC (.int 0)) dNil)))
  (dSeq (dFor (dIter (dOp wIx (dVar 1) (dC (.int 1)))) (fun r ρ P => asgD 3 r ρ P)
  (dApp 2 (dOp wAdd (dOp wIx (dVar 2) (dNeg (dC (.int 1)))) (dOwn 2 V_growth_of (dCons (dVar 0) (dCons (dVar 3) dNil))))))
  (dRet (dCall wTuple (dCons (dVar 2) dNil)))))
abbrev W_indexes : WF := runD N_indexes ws_indexes
def V_end_of_way : WF := fun as P => ∃ (h : Hall) (x : Str) (l : List Arc), as = [.dat (hallD h), .dat (wayD x l)] ∧ (∀ a ∈ l, ArcOk h a) ∧ P (atom (.str (lastH h x l)))
theorem w_end_of_way {as : List Sl} {P : DK} (hv : V_end_of_way as P) : W_end_of_way as P := by
  obtain ⟨h, x, l, rfl, ok, p⟩ := hv
  refine ⟨rfl, rfl, rfl, rfl, rfl, ?_⟩
  rcases List.eq_nil_or_concat l with e | ⟨bs, b, e⟩
  · subst e
    exact p
  · subst e
    rw [List.concat_eq_append] at p ok
    have e2 : lastH h x (bs ++ [b]) = endH h b := by unfold lastH; rw [List.getLast?_concat]
    rw [e2] at p
    have e3 : (bs ++ [b]).map arcD = bs.map arcD ++ [arcD b] := by rw [List.map_append]; rfl
    rw [List.concat_eq_append]
    show (if (!((bs ++ [b]).map arcD).isEmpty) = true then _ else _)
    have ne : (!((bs ++ [b]).map arcD).isEmpty) = true := by rw [e3]; cases bs <;> rfl
    rw [ne]
    exact ⟨_, by rw [e3]; exact atI_last _ _, rfl, h, b, rfl, ok b (List.mem_append_right _ (.head _)), p⟩
def V_indexes : WF := fun as P => ∃ (h : Hall) (x : Str) (l : List Arc), as = [.dat (hallD h), .dat (wayD x l)] ∧ l.length ≤ 500000 ∧ (∀ a ∈ l, ArcOk h a) ∧ P (.d (.tuple (intsD (sumsH h l))) .gd)
theorem w_indexes {as : List Sl} {P : DK} (hv : V_indexes as P) : W_indexes as P := by
  obtain ⟨h, x, l, rfl, few, ok, p⟩ := hv
  refine ⟨leb rfl, _, rfl, rfl, rfl, ?_⟩
  refine for_gen arcD (fun done ρ => ∃ F s3, ρ = [.dat (hallD h), .dat (wayD x l), .own (.list F), s3] ∧ F = intsD (sumsH h done)) l _ ⟨_, _, rfl, rfl⟩ ?_ ?_
  · rintro done a rest _ C e ⟨F, s3, rfl, eF⟩ next
    have ma : a ∈ l := by rw [e]; exact List.mem_append_right _ (.head _)
    have ld : l.length = done.length + (rest.length + 1) := by rw [e, List.length_append, List.length_cons]
    refine ⟨rfl, .int (totalH h done), by rw [eF]; exact intsD_last h done, rfl, h, a, rfl, ok a ma, rfl, ?_, next _ ⟨_, _, rfl, ?_⟩⟩
    · rw [eF]
      unfold intsD
      rw [List.length_map, sumsH_len]
      omega
    · rw [eF, sumsH_snoc]
      unfold intsD
      rw [List.map_append]
      rfl
  · rintro _ ⟨F, s3, rfl, eF⟩
    have pu : pures F = true := by rw [eF]; exact pures_map _ (fun _ => rfl) _
    show P (.d (.tuple F) _)
    rw [eF]
    exact p
end Cm

namespace Cm
open PySem PySem.Spec PyProof.Rows L2 Vd Pd
/-! C14: pieces ended on a way; ways by the law -/
/-! index_of -/
abbrev N_index_of : List Str := ["hall", "way"]
def ws_index_of : DS := (dRet (dOp wIx (dOwn 2 V_indexes (dCons (dVar 0) (dCons (dVar 1) dNil))) (dNeg (dC (.int 1)))))
abbrev W_index_of : WF := runD N_index_of ws_index_of
/-! ended -/
abbrev N_ended : List Str := ["hall", "way", "arc", "index"]
def ws_ended : DS := (dRet (dCall wTuple (dCons (dLc (dZip (dCons (dOp wIx (dVar 1) (dC (.int 1))) (dCons (dOwn 2 V_indexes (dCons (dVar 0) (dCons (dVar 1) dNil))) dNil))) (wgTup 2 (wgCons (fun r ρ P => asgD 2 r ρ P) (wgCons (fun r ρ P => asgD 3 r ρ P) wgNil))) (dTru (dOwn 1 V_does_end (dCons (dVar 2) dNil))) (dTup (dCons (dOwn 2 V_start_of (dCons (dVar 0) (dCons (dVar 2) dNil))) (dCons (dVar 3) dNil))) [2, 3]) dNil)))
abbrev W_ended : WF := runD N_ended ws_ended
def V_index_of : WF := fun as P => ∃ (h : Hall) (x : Str) (l : List Arc), as = [.dat (hallD h), .dat (wayD x l)] ∧ l.length ≤ 500000 ∧ (∀ a ∈ l, ArcOk h a) ∧ P (atom (.int (totalH h l)))
theorem w_index_of {as : List Sl} {P : DK} (hv : V_index_of as P) : W_index_of as P := by
  obtain ⟨h, x, l, rfl, few, ok, p⟩ := hv
  exact ⟨rfl, h, x, l, rfl, few, ok, _, intsD_last h l, p⟩
def pieceOf (h : Hall) (q : Arc × Int) : Option (Str × Int) := if q.1.ends = true then some (startH h q.1, q.2) else none
def pieceD (q : Str × Int) : PyData := .tuple [.str q.1, .int q.2]
def endedH (h : Hall) (l : List Arc) : List (Str × Int) := (l.zip (sumsH h l)).filterMap (pieceOf h)
def V_ended : WF := fun as P => ∃ (h : Hall) (x : Str) (l : List Arc), as = [.dat (hallD h), .dat (wayD x l)] ∧ l.length ≤ 500000 ∧ (∀ a ∈ l, ArcOk h a) ∧ P (.d (.tuple ((endedH h l).map pieceD)) .gd)
theorem w_ended {as : List Sl} {P : DK} (hv : V_ended as P) : W_ended as P := by
  obtain ⟨h, x, l, rfl, few, ok, p⟩ := hv
  refine ⟨_, rfl, rfl, h, x, l, rfl, few, ok, rfl, rfl, rfl, ?_⟩
  have ez : zipD (l.map arcD) (intsD (sumsH h l)) = (l.zip (sumsH h l)).map fun q => .tuple [arcD q.1, .int q.2] := zipD_both arcD PyData.int l (sumsH h l)
  rw [ez]
  refine lc_gen (fun q : Arc × Int => .tuple [arcD q.1, .int q.2]) (fun q => (pieceOf h q).map pieceD) (l.zip (sumsH h l)) [] (by rw [List.length_zip]; simp; omega) (fun q mq acc k' few' nx => ?_) ?_
  · have oq := ok _ (List.of_mem_zip mq).1
    refine ⟨rfl, rfl, rfl, rfl, rfl, rfl, q.1, rfl, ?_⟩
    cases he : q.1.ends with
    | true =>
      have e : pieceOf h q = some (startH h q.1, q.2) := by unfold pieceOf; rw [if_pos he]
      rw [e] at nx
      exact ⟨rfl, h, q.1, rfl, oq, leb rfl, rfl, few', nx⟩
    | false =>
      have e : pieceOf h q = none := by unfold pieceOf; rw [if_neg (by rw [he]; decide)]
      rw [e] at nx
      show k' acc
      rw [← List.append_nil acc]
      exact nx
  · rw [filter_map_map, List.nil_append]
    exact p
/-! ### by the law -/
/-! _law_end -/
abbrev N__law_end : List Str := ["hall", "name", "arc", "ends", "one", "end", "growth"]
def ws__law_end : DS := (dSeq (dSetD 3 (dLc (dIter (dOwn 2 V__law_arcs (dCons (dVar 0) (dCons (dVar 1) dNil)))) (wgTup 3 (wgCons (fun r ρ P => asgD 4 r ρ P) (wgCons (fun r ρ P => asgD 5 r ρ P) (wgCons (fun r ρ P => asgD 6 r ρ P) wgNil)))) (dTest (dOp wEq (dVar 4) (dVar 2))) (dVar 5) [4, 5, 6]))
  (dRet (dIfE (dTest (dOp wNe (dVar 3) (dLst dNil))) (dOp wIx (dVar 3) (dC (.int 0))) (dC .none))))
abbrev W__law_end : WF := runD N__law_end ws__law_end
/-! _law_growth -/
abbrev N__law_growth : List Str := ["hall", "arc", "room", "first"]
def ws__law_growth : DS := (dSeq (dIf (dTest (dOp wEq (dOp wIx (dVar 1) (dC (.int 0))) (dC (.str "next")))) (dRet (dC (.int 1))) dNext)
  (dSeq (dAsg (dCut (dOp wIx (dOp wIx (dVar 0) (dC (.int 1))) (dOp wIx (dVar 1) (dC (.int 1)))) (dSome (dC (.int 2))) dNo) (wgTup 2 (wgCons (fun r ρ P => asgD 2 r ρ P) (wgCons (fun r ρ P => asgD 3 r ρ P) wgNil))))
  (dRet (dIfE (dTest (dOp wEq (dOp wIx (dVar 1) (dC (.int 0))) (dC (.str "down")))) (dVar 3) (dOp wSub (dVar 2) (dVar 3))))))
abbrev W__law_growth : WF := runD N__law_growth ws__law_growth
/-! _law_is_arc -/
abbrev N__law_is_arc : List Str := ["hall", "thing"]
def ws__law_is_arc : DS := (dSeq (dIf (dOr (dNot (dTru (dIsi (isTyX "tuple") (dVar 1)))) (dOr (dTest (dOp wNe (dCall wLen (dCons (dVar 1) dNil)) (dC (.int 2)))) (dNot (dTru (dIsi (isTyX "str") (dOp wIx (dVar 1) (dC (.int 0)))))))) (dRet (dC (.bool false))) dNext)
  (dSeq (dIf (dTest (dOp wEq (dOp wIx (dVar 1) (dC (.int 0))) (dC (.str "next")))) (dRet (dAndV (dIsi (isTyX "str") (dOp wIx (dVar 1) (dC (.int 1)))) (dOp (wIn false) (dOp wIx (dVar 1) (dC (.int 1))) (dOwn 1 V__law_names (dCons (dVar 0) dNil))))) dNext)
  (dRet (dAndV (dOp (wIn false) (dOp wIx (dVar 1) (dC (.int 0))) (dTup (dCons (dC (.str "down")) (dCons (dC (.str "up")) dNil)))) (dAndV (dOwn 1 V__law_is_int (dCons (dOp wIx (dVar 1) (dC (.int 1))) dNil)) (dChain wLe wLt (dC (.int 0)) (dOp wIx (dVar 1) (dC (.int 1))) (dCall wLen (dCons (dOp wIx (dVar 0) (dC (.int 1))) dNil))))))))
abbrev W__law_is_arc : WF := runD N__law_is_arc ws__law_is_arc
def endsFrom (h : Hall) (x : Str) (a : Arc) : PyData := if startH h a = x then .str (endH h a) else .none
def V__law_end : WF := fun as P => ∃ (h : Hall) (x : Str) (a : Arc), as = [.dat (hallD h), .dat (.str x), .dat (arcD a)] ∧ Few h ∧ x ∈ namesH h ∧ (∀ y ∈ namesH h, (PyData.str y).canLay0 = true) ∧ ArcOk h a ∧ (PyData.str (endH h a)).canLay0 = true ∧ P (atom (endsFrom h x a))
def pickEnd (a : Arc) (t : ArcT) : Option Str := if t.1 = a then some t.2.1 else none
theorem arcsOf_has {h : Hall} {a : Arc} (ok : ArcOk h a) : ∃ t ∈ arcsOf h (startH h a), t.1 = a := by
  have at_ : ∀ j, j < h.bs.length → (beltAt h j, j) ∈ h.bs.zipIdx := fun j lt => by
    refine List.mem_zipIdx_iff_getElem?.mpr ?_
    unfold beltAt
    rw [List.getD_eq_getElem?_getD, List.getElem?_eq_getElem lt]
    rfl
  cases a with
  | next x => exact ⟨(.next x, x, 1), List.mem_append_left _ (.head _), rfl⟩
  | down j => exact ⟨(.down j, (beltAt h j).2.1, (beltAt h j).2.2.2), List.mem_append_left _ (.tail _ (List.mem_filterMap.mpr ⟨_, at_ j ok, if_pos rfl⟩)), rfl⟩
  | up j => exact ⟨(.up j, (beltAt h j).1, (beltAt h j).2.2.1 - (beltAt h j).2.2.2), List.mem_append_right _ (List.mem_filterMap.mpr ⟨_, at_ j ok, if_pos rfl⟩), rfl⟩
theorem pickEnd_all {h : Hall} {x : Str} {a : Arc} (mx : x ∈ namesH h) : ∀ z ∈ (arcsOf h x).filterMap (pickEnd a), z = endH h a ∧ startH h a = x := fun z mz => by
  obtain ⟨u, mu, ez⟩ := List.mem_filterMap.mp mz
  unfold pickEnd at ez
  split at ez
  · rename_i eu
    cases ez
    obtain ⟨_, e1, _, e3⟩ := arcsOf_is mu mx
    rw [e1, eu]
    exact ⟨rfl, by rw [← eu]; exact e3⟩
  · cases ez
theorem pickEnd_is {h : Hall} {x : Str} {a : Arc} (mx : x ∈ namesH h) (ok : ArcOk h a) : (startH h a = x ∧ ∃ r, (arcsOf h x).filterMap (pickEnd a) = endH h a :: r) ∨ (startH h a ≠ x ∧ (arcsOf h x).filterMap (pickEnd a) = []) := by
  have all := pickEnd_all (a := a) mx
  cases hl : (arcsOf h x).filterMap (pickEnd a) with
  | nil =>
    refine .inr ⟨fun e => ?_, rfl⟩
    obtain ⟨t, mt, et⟩ := arcsOf_has ok
    rw [e] at mt
    have : t.2.1 ∈ (arcsOf h x).filterMap (pickEnd a) := List.mem_filterMap.mpr ⟨t, mt, if_pos et⟩
    rw [hl] at this
    cases this
  | cons z r =>
    obtain ⟨e1, e2⟩ := all z (by rw [hl]; exact .head _)
    exact .inl ⟨e2, r, by rw [e1]⟩
theorem w__law_end {as : List Sl} {P : DK} (hv : V__law_end as P) : W__law_end as P := by
  obtain ⟨h, x, a, rfl, few, mx, lay, ok, le, p⟩ := hv
  have la := arcs_len h x
  have f2 := few.2.1
  have aok : ∀ {b : Arc}, ArcOk h b → SeqAt.shaped (arcD b) = true := fun {b} o => shaped_arc fun y ey => by
    rw [ey] at o
    exact lay y o
  refine ⟨rfl, h, x, rfl, few.2.1, rfl, ?_⟩
  refine lc_gen arcT (fun t => (pickEnd a t).map PyData.str) (arcsOf h x) [] (by simp; omega) (fun t mt acc k' few' nx => ?_) ?_
  · refine ⟨rfl, rfl, rfl, rfl, rfl, rfl, ?_⟩
    refine arc_same (b := t.1) (a := a) rfl rfl (aok (arcsOf_is mt mx).1) (aok ok) ?_
    refine iteD (fun hc => ?_) (fun hc => ?_)
    · have e : pickEnd a t = some t.2.1 := if_pos hc
      rw [e] at nx
      exact ⟨rfl, few', nx⟩
    · have e : pickEnd a t = none := if_neg hc
      rw [e] at nx
      rw [← List.append_nil acc]
      exact nx
  · rw [filter_map_map, List.nil_append]
    have sub : ∀ y ∈ (arcsOf h x).filterMap (pickEnd a), (PyData.str y).canLay0 = true := fun y my => by
      rw [(pickEnd_all mx y my).1]
      exact le
    refine ⟨rfl, leb rfl, shaped_strs sub, rfl, ?_⟩
    show (if (!PyData.eqv (.list (strsD ((arcsOf h x).filterMap (pickEnd a)))) (.list [])) = true then _ else _)
    rcases pickEnd_is mx ok with ⟨e1, r, e2⟩ | ⟨e1, e2⟩
    · have e3 : endsFrom h x a = .str (endH h a) := if_pos e1
      rw [e3] at p
      rw [e2]
      exact ⟨.str (endH h a), atN (j := 0) rfl, p⟩
    · have e3 : endsFrom h x a = .none := if_neg e1
      rw [e3] at p
      rw [e2]
      exact p
def V__law_growth : WF := V_growth_of
theorem w__law_growth {as : List Sl} {P : DK} (hv : V__law_growth as P) : W__law_growth as P := by
  obtain ⟨h, a, rfl, ok, p⟩ := hv
  cases a with
  | next x => exact ⟨_, rfl, p⟩
  | down j => exact ⟨_, rfl, _, rfl, _, rfl, _, belt_at ok, rfl, rfl, rfl, rfl, rfl, _, rfl, p⟩
  | up j => exact ⟨_, rfl, _, rfl, _, rfl, _, belt_at ok, rfl, rfl, rfl, rfl, rfl, _, rfl, p⟩
def V__law_is_arc : WF := fun as P => ∃ (h : Hall) (d : PyData), as = [.dat (hallD h), .dat d] ∧ Few h ∧ P (atom (.bool (arcOfX h d).isSome))
theorem w__law_is_arc {as : List Sl} {P : DK} (hv : V__law_is_arc as P) : W__law_is_arc as P := by
  obtain ⟨h, d, rfl, few, p⟩ := hv
  match d, p with
  | .tuple [a, w], p =>
    refine ⟨a, rfl, ?_⟩
    cases a with
    | str k =>
      refine ⟨_, rfl, ?_⟩
      refine iteD (fun hk => ?_) (fun hk => ?_)
      · subst hk
        refine ⟨w, rfl, ?_⟩
        cases w with
        | str x =>
          refine ⟨_, rfl, rfl, h, rfl, few.1, rfl, flat_strs _, ?_⟩
          show P (atom (.bool (inX (.str x) (strsD (namesH h)))))
          rw [inX_strs]
          have e2 : (arcOfX h (.tuple [.str "next", .str x])).isSome = decide (x ∈ namesH h) := by
            rw [arcOf_next]
            by_cases m : x ∈ namesH h
            · rw [if_pos m, decide_eq_true m]; rfl
            · rw [if_neg m, decide_eq_false m]; rfl
          rw [e2] at p
          exact p
        | _ => exact p
      · refine ⟨_, rfl, leb rfl, rfl, rfl, ?_⟩
        show (if inX (.str k) (strsD ["down", "up"]) = true then _ else _)
        rw [inX_strs]
        refine iteD (fun hm => ⟨_, rfl, rfl, w, rfl, ?_⟩) (fun hm => ?_)
        · cases w with
          | int i =>
            have e := arcNum_some h i hk
            rw [decide_eq_true hm, Bool.true_and] at e
            rw [e] at p
            refine ⟨_, rfl, iteD (fun h0 => ?_) (fun h0 => ?_)⟩
            · rw [decide_eq_true h0, Bool.true_and] at p
              refine ⟨_, rfl, ?_⟩
              show P (atom (.bool (decide (i < (((h.bs.map beltD).length : Nat) : Int)))))
              rw [List.length_map]
              exact p
            · rw [decide_eq_false h0, Bool.false_and] at p
              exact p
          | _ =>
            rw [arcNo h hk (by intro i z; cases z)] at p
            exact p
        · have e : arcOfX h (.tuple [.str k, w]) = none := by
            cases w with
            | int i =>
              have := arcNum_some h i hk
              rw [decide_eq_false hm, Bool.false_and] at this
              cases hz : arcOfX h (.tuple [.str k, .int i]) with
              | none => rfl
              | some a => rw [hz] at this; cases this
            | _ => exact arcNo h hk (by intro i z; cases z)
          rw [e] at p
          exact p
    | _ => exact p
  | .tuple [], p => exact p
  | .tuple [a], p =>
    have e : arcOfX h (.tuple [a]) = none := by cases a <;> rfl
    rw [e] at p
    exact p
  | .tuple (a :: b :: c :: r), p =>
    have e : arcOfX h (.tuple (a :: b :: c :: r)) = none := by cases a <;> rfl
    rw [e] at p
    exact p
  | .none, p => exact p
  | .bool _, p => exact p
  | .int _, p => exact p
  | .str _, p => exact p
  | .list _, p => exact p
  | .dict _, p => exact p
end Cm

namespace Cm
open PySem PySem.Spec PyProof.Rows L2 Vd Pd
/-! C15: ways of any value, by the law -/
def optD : Option Str → PyData
  | some x => .str x
  | none => .none
def stepW (h : Hall) (o : Option Str) (d : PyData) : Option Str := match o, arcOfX h d with
  | some x, some a => if startH h a = x then some (endH h a) else none
  | _, _ => none
theorem stepW_none (h : Hall) (d : PyData) : stepW h none d = none := rfl
theorem fold_none (h : Hall) : ∀ ds : List PyData, ds.foldl (stepW h) none = none
  | [] => rfl
  | d :: ds => fold_none h ds
theorem fold_some (h : Hall) : ∀ (ds : List PyData) (x : Str), (ds.foldl (stepW h) (some x)).isSome = wayB h x ds
  | [], x => rfl
  | d :: ds, x => by
    rw [List.foldl_cons]
    have e1 : allArcs h (d :: ds) = (match arcOfX h d with | some a => (allArcs h ds).map (a :: ·) | none => none) := rfl
    unfold wayB
    rw [e1]
    cases ea : arcOfX h d with
    | none =>
      have e2 : stepW h (some x) d = none := by unfold stepW; rw [ea]
      rw [e2, fold_none]
      rfl
    | some a =>
      have e2 : stepW h (some x) d = if startH h a = x then some (endH h a) else none := by unfold stepW; rw [ea]
      rw [e2]
      by_cases hs : startH h a = x
      · rw [if_pos hs, fold_some h ds (endH h a)]
        unfold wayB
        cases allArcs h ds with
        | none => rfl
        | some as =>
          show pathB h (endH h a) as = (decide (startH h a = x) && pathB h (endH h a) as)
          rw [decide_eq_true hs, Bool.true_and]
      · rw [if_neg hs, fold_none]
        cases allArcs h ds with
        | none => rfl
        | some as =>
          show false = (decide (startH h a = x) && pathB h (endH h a) as)
          rw [decide_eq_false hs, Bool.false_and]
/-! _law_is_way -/
abbrev N__law_is_way : List Str := ["hall", "thing", "name", "arc"]
def ws__law_is_way : DS := (dSeq (dIf (dOr (dNot (dTru (dIsi (isTyX "tuple") (dVar 1)))) (dOr (dTest (dOp wNe (dCall wLen (dCons (dVar 1) dNil)) (dC (.int 2)))) (dOr (dNot (dTru (dIsi (isTyX "str") (dOp wIx (dVar 1) (dC (.int 0)))))) (dNot (dTru (dIsi (isTyX "tuple") (dOp wIx (dVar 1) (dC (.int 1))))))))) (dRet (dC (.bool false))) dNext)
  (dSeq (dSetD 2 (dIfE (dTest (dOp (wIn false) (dOp wIx (dVar 1) (dC (.int 0))) (dOwn 1 V__law_names (dCons (dVar 0) dNil)))) (dOp wIx (dVar 1) (dC (.int 0))) (dC .none)))
  (dSeq (dFor (dIter (dOp wIx (dVar 1) (dC (.int 1)))) (fun r ρ P => asgD 3 r ρ P)
  (dSetD 2 (dIfE (dAnd (dTest (dNotN (dVar 2))) (dTru (dOwn 2 V__law_is_arc (dCons (dVar 0) (dCons (dVar 3) dNil))))) (dOwn 3 V__law_end (dCons (dVar 0) (dCons (dVar 2) (dCons (dVar 3) dNil)))) (dC .none))))
  (dRet (dNotN (dVar 2))))))
abbrev W__law_is_way : WF := runD N__law_is_way ws__law_is_way
/-! _law_met -/
abbrev N__law_met : List Str := ["hall", "way", "found", "arc"]
def ws__law_met : DS := (dSeq (dSetO 2 (dLst (dCons (dOp wIx (dVar 1) (dC (.int 0))) dNil)))
  (dSeq (dFor (dIter (dOp wIx (dVar 1) (dC (.int 1)))) (fun r ρ P => asgD 3 r ρ P)
  (dApp 2 (dOwn 3 V__law_end (dCons (dVar 0) (dCons (dOp wIx (dVar 2) (dNeg (dC (.int 1)))) (dCons (dVar 3) dNil))))))
  (dRetO 2)))
abbrev W__law_met : WF := runD N__law_met ws__law_met
/-! _law_indexes -/
abbrev N__law_indexes : List Str := ["hall", "way", "found", "arc"]
def ws__law_indexes : DS := (dSeq (dSetO 2 (dLst (dCons (dC (.int 0)) dNil)))
  (dSeq (dFor (dIter (dOp wIx (dVar 1) (dC (.int 1)))) (fun r ρ P => asgD 3 r ρ P)
  (dApp 2 (dOp wAdd (dOp wIx (dVar 2) (dNeg (dC (.int 1)))) (dOwn 2 V__law_growth (dCons (dVar 0) (dCons (dVar 3) dNil))))))
  (dRetO 2)))
abbrev W__law_indexes : WF := runD N__law_indexes ws__law_indexes
abbrev V__law_is_way : WF := V_is_way
theorem w__law_is_way {as : List Sl} {P : DK} (hv : V__law_is_way as P) : W__law_is_way as P := by
  obtain ⟨h, d, rfl, wi, p⟩ := hv
  match d, wi, p with
  | .tuple [a, b], wi, p =>
    refine ⟨a, rfl, ?_⟩
    cases a with
    | str x =>
      refine ⟨b, rfl, ?_⟩
      cases b with
      | tuple ds =>
        refine ⟨.str x, rfl, rfl, h, rfl, wi.few.1, rfl, flat_strs _, ?_⟩
        have main : ∀ o : Option Str, o = (if x ∈ namesH h then some x else none) → (∀ y, o = some y → y ∈ namesH h) → forL (fun r ρ P => asgD 3 r ρ P) (dSetD 2 (dIfE (dAnd (dTest (dNotN (dVar 2))) (dTru (dOwn 2 V__law_is_arc (dCons (dVar 0) (dCons (dVar 3) dNil))))) (dOwn 3 V__law_end (dCons (dVar 0) (dCons (dVar 2) (dCons (dVar 3) dNil)))) (dC .none))) ds
            { nx := dRet (dNotN (dVar 2)) { nx := fun _ => P (atom .none), rt := P }, rt := P } [.dat (hallD h), .dat (.tuple [.str x, .tuple ds]), .dat (optD o), .un] := fun o eo ino => by
          refine for_gen0 (fun done ρ => ∃ o' s3, ρ = [.dat (hallD h), .dat (.tuple [.str x, .tuple ds]), .dat (optD o'), s3] ∧ o' = done.foldl (stepW h) o ∧ ∀ y, o' = some y → y ∈ namesH h) ds _ ⟨o, _, rfl, rfl, ino⟩ ?_ ?_
          · rintro done d rest _ C e ⟨o', s3, rfl, eo', ino'⟩ next
            have es : (done ++ [d]).foldl (stepW h) o = stepW h o' d := by rw [List.foldl_append, eo']; rfl
            cases o' with
            | none =>
              refine ⟨rfl, rfl, next _ ⟨none, _, rfl, ?_, fun y z => by cases z⟩⟩
              rw [es]
              rfl
            | some y =>
              refine ⟨rfl, rfl, h, d, rfl, wi.few, ?_⟩
              cases ea : arcOfX h d with
              | none =>
                refine ⟨rfl, next _ ⟨none, _, rfl, ?_, fun y z => by cases z⟩⟩
                rw [es]
                unfold stepW
                rw [ea]
              | some a =>
                obtain ⟨rfl, oa⟩ := arcOf_is ea
                have ee := wi.ends oa
                refine ⟨rfl, h, y, a, rfl, wi.few, ino' y rfl, wi.lay, oa, wi.lay _ ee.2, rfl, ?_⟩
                by_cases hs : startH h a = y
                · have e1 : endsFrom h y a = optD (some (endH h a)) := if_pos hs
                  rw [e1]
                  refine next _ ⟨some (endH h a), _, rfl, ?_, fun z ez => by cases ez; exact ee.2⟩
                  rw [es]
                  unfold stepW
                  rw [ea]
                  exact (if_pos hs).symm
                · have e1 : endsFrom h y a = optD none := if_neg hs
                  rw [e1]
                  refine next _ ⟨none, _, rfl, ?_, fun z ez => by cases ez⟩
                  rw [es]
                  unfold stepW
                  rw [ea]
                  exact (if_neg hs).symm
          · rintro _ ⟨o', s3, rfl, eo', ino'⟩
            have e : isWayX h (.tuple [.str x, .tuple ds]) = o'.isSome := by
              show (decide (x ∈ namesH h) && wayB h x ds) = o'.isSome
              rw [eo', eo]
              by_cases m : x ∈ namesH h
              · rw [if_pos m, fold_some, decide_eq_true m, Bool.true_and]
              · rw [if_neg m, fold_none, decide_eq_false m, Bool.false_and]; rfl
            rw [e] at p
            cases o' with
            | none => exact p
            | some y => exact p
        show (if inX (.str x) (strsD (namesH h)) = true then _ else _)
        rw [inX_strs]
        refine iteD (fun m => ⟨.str x, rfl, rfl, _, rfl, rfl, rfl, ?_⟩) (fun m => ⟨rfl, _, rfl, rfl, rfl, ?_⟩)
        · exact main (some x) (if_pos m).symm fun y z => by cases z; exact m
        · exact main none (if_neg m).symm fun y z => by cases z
      | _ => exact p
    | _ => exact p
  | .tuple [], _, p => exact p
  | .tuple [a], _, p =>
    have e : isWayX h (.tuple [a]) = false := by cases a <;> rfl
    rw [e] at p
    exact p
  | .tuple (a :: b :: c :: r), _, p =>
    have e : isWayX h (.tuple (a :: b :: c :: r)) = false := by cases a <;> first | rfl | (cases b <;> rfl)
    rw [e] at p
    exact p
  | .none, _, p => exact p
  | .bool _, _, p => exact p
  | .int _, _, p => exact p
  | .str _, _, p => exact p
  | .list _, _, p => exact p
  | .dict _, _, p => exact p
def V__law_indexes : WF := fun as P => ∃ (h : Hall) (x : Str) (l : List Arc), as = [.dat (hallD h), .dat (wayD x l)] ∧ l.length ≤ 500000 ∧ (∀ a ∈ l, ArcOk h a) ∧ P (.d (.list (intsD (sumsH h l))) .fr)
theorem w__law_indexes {as : List Sl} {P : DK} (hv : V__law_indexes as P) : W__law_indexes as P := by
  obtain ⟨h, x, l, rfl, few, ok, p⟩ := hv
  refine ⟨leb rfl, _, rfl, rfl, rfl, ?_⟩
  refine for_gen arcD (fun done ρ => ∃ F s3, ρ = [.dat (hallD h), .dat (wayD x l), .own (.list F), s3] ∧ F = intsD (sumsH h done)) l _ ⟨_, _, rfl, rfl⟩ ?_ ?_
  · rintro done a rest _ C e ⟨F, s3, rfl, eF⟩ next
    have ma : a ∈ l := by rw [e]; exact List.mem_append_right _ (.head _)
    have ld : l.length = done.length + (rest.length + 1) := by rw [e, List.length_append, List.length_cons]
    refine ⟨rfl, .int (totalH h done), by rw [eF]; exact intsD_last h done, rfl, ⟨h, a, rfl, ok a ma, rfl, ?_, next _ ⟨_, _, rfl, ?_⟩⟩⟩
    · rw [eF]
      unfold intsD
      rw [List.length_map, sumsH_len]
      omega
    · rw [eF, sumsH_snoc]
      unfold intsD
      rw [List.map_append]
      rfl
  · rintro _ ⟨F, s3, rfl, eF⟩
    rw [eF]
    exact p
/-! ### the names that are met -/
theorem lastH_fold (h : Hall) (as : List Arc) (x : Str) : lastH h x as = as.foldl (fun _ a => endH h a) x := by
  rcases List.eq_nil_or_concat as with e | ⟨bs, b, e⟩
  · subst e; rfl
  · rw [e, List.concat_eq_append]
    unfold lastH
    rw [List.getLast?_concat, List.foldl_append]
    rfl
theorem lastH_cons (h : Hall) (a : Arc) (as : List Arc) (x : Str) : lastH h x (a :: as) = lastH h (endH h a) as := by
  rw [lastH_fold, lastH_fold, List.foldl_cons]
theorem path_mid (h : Hall) : ∀ (done : List Arc) (x : Str) (a : Arc) (rest : List Arc), pathB h x (done ++ a :: rest) = true → startH h a = lastH h x done
  | [], x, a, rest, e => by
    have e : (decide (startH h a = x) && pathB h (endH h a) rest) = true := e
    rw [Bool.and_eq_true] at e
    exact of_decide_eq_true e.1
  | b :: done, x, a, rest, e => by
    have e : (decide (startH h b = x) && pathB h (endH h b) (done ++ a :: rest)) = true := e
    rw [Bool.and_eq_true] at e
    rw [lastH_cons]
    exact path_mid h done (endH h b) a rest e.2
def metH (h : Hall) (x : Str) (l : List Arc) : List Str := x :: l.map (endH h)
theorem metH_last (h : Hall) (x : Str) (l : List Arc) : atI (strsD (metH h x l)) (-1) = some (.str (lastH h x l)) := by
  rcases List.eq_nil_or_concat l with e | ⟨bs, b, e⟩
  · subst e
    exact atI_last [] _
  · rw [e, List.concat_eq_append]
    have e1 : strsD (metH h x (bs ++ [b])) = strsD (metH h x bs) ++ [.str (endH h b)] := by
      unfold strsD metH
      rw [List.map_append, ← List.cons_append, List.map_append]
      rfl
    have e2 : lastH h x (bs ++ [b]) = endH h b := by unfold lastH; rw [List.getLast?_concat]
    rw [e1, e2]
    exact atI_last _ _
theorem metH_snoc (h : Hall) (x : Str) (l : List Arc) (a : Arc) : metH h x (l ++ [a]) = metH h x l ++ [endH h a] := by
  unfold metH
  rw [List.map_append]
  rfl
structure HallIn (h : Hall) : Prop where
  few : Few h
  lay : ∀ x ∈ namesH h, (PyData.str x).canLay0 = true
  bs : ∀ m ∈ h.bs, m.1 ∈ namesH h ∧ m.2.1 ∈ namesH h
theorem HallIn.ends {h : Hall} (w : HallIn h) {a : Arc} (ok : ArcOk h a) : startH h a ∈ namesH h ∧ endH h a ∈ namesH h := by
  have at_ : ∀ j, j < h.bs.length → beltAt h j ∈ h.bs := fun j lt => by
    unfold beltAt
    rw [List.getD_eq_getElem?_getD, List.getElem?_eq_getElem lt]
    exact List.getElem_mem lt
  cases a with
  | next x => exact ⟨ok, ok⟩
  | down j => exact w.bs _ (at_ j ok)
  | up j => exact ⟨(w.bs _ (at_ j ok)).2, (w.bs _ (at_ j ok)).1⟩
theorem HallIn.last {h : Hall} (w : HallIn h) {x : Str} (mx : x ∈ namesH h) : ∀ {l : List Arc}, (∀ a ∈ l, ArcOk h a) → lastH h x l ∈ namesH h := fun {l} ok => by
  rcases List.eq_nil_or_concat l with e | ⟨bs, b, e⟩
  · subst e; exact mx
  · rw [e, List.concat_eq_append]
    unfold lastH
    rw [List.getLast?_concat]
    exact (w.ends (ok b (by rw [e]; simp))).2
def V__law_met : WF := fun as P => ∃ (h : Hall) (x : Str) (l : List Arc), as = [.dat (hallD h), .dat (wayD x l)] ∧ HallIn h ∧ l.length ≤ 500000 ∧ WayOk h x l ∧ P (.d (.list (strsD (metH h x l))) .fr)
theorem w__law_met {as : List Sl} {P : DK} (hv : V__law_met as P) : W__law_met as P := by
  obtain ⟨h, x, l, rfl, hi, few, w, p⟩ := hv
  refine ⟨_, rfl, leb rfl, _, rfl, rfl, rfl, ?_⟩
  refine for_gen arcD (fun done ρ => ∃ F s3, ρ = [.dat (hallD h), .dat (wayD x l), .own (.list F), s3] ∧ F = strsD (metH h x done)) l _ ⟨_, _, rfl, rfl⟩ ?_ ?_
  · rintro done a rest _ C e ⟨F, s3, rfl, eF⟩ next
    have ma : a ∈ l := by rw [e]; exact List.mem_append_right _ (.head _)
    have oa := w.arcs a ma
    have ld : l.length = done.length + (rest.length + 1) := by rw [e, List.length_append, List.length_cons]
    have hs : startH h a = lastH h x done := path_mid h done x a rest (by rw [← e]; exact w.path)
    have ml := hi.last w.name (l := done) fun b mb => w.arcs b (by rw [e]; exact List.mem_append_left _ mb)
    have ee := hi.ends oa
    refine ⟨rfl, .str (lastH h x done), by rw [eF]; exact metH_last h x done, rfl, h, lastH h x done, a, rfl, hi.few, ml, hi.lay, oa, hi.lay _ ee.2, ?_⟩
    have e1 : endsFrom h (lastH h x done) a = .str (endH h a) := if_pos hs
    rw [e1]
    refine ⟨rfl, ?_, next _ ⟨_, _, rfl, ?_⟩⟩
    · rw [eF]
      unfold strsD metH
      rw [List.length_map, List.length_cons, List.length_map]
      omega
    · rw [eF, metH_snoc]
      unfold strsD
      rw [List.map_append]
      rfl
  · rintro _ ⟨F, s3, rfl, eF⟩
    rw [eF]
    exact p
theorem WayIn.hall {h : Hall} {d : PyData} (w : WayIn h d) : HallIn h := ⟨w.few, w.lay, w.bs⟩
theorem canLay_arc {h : Hall} (hi : HallIn h) {a : Arc} (ok : ArcOk h a) : (arcD a).canLay0 = true := SeqAt.canLay_of_shaped (shaped_arc fun y ey => by
  rw [ey] at ok
  exact hi.lay y ok)
theorem canLay_arcs {h : Hall} (hi : HallIn h) : ∀ {l : List Arc}, (∀ a ∈ l, ArcOk h a) → PyData.canLayAll0 (l.map arcD) = true
  | [], _ => rfl
  | a :: l, ok => by
    show ((arcD a).canLay0 && PyData.canLayAll0 (l.map arcD)) = true
    rw [canLay_arc hi (ok a (.head _)), canLay_arcs hi fun b m => ok b (.tail _ m)]
    rfl
theorem depth_arc (a : Arc) : (arcD a).depth = 1 := by cases a <;> rfl
theorem depth_arcs : ∀ l : List Arc, PyData.depthAll (l.map arcD) ≤ 1
  | [] => Nat.zero_le _
  | a :: l => by
    show max (arcD a).depth (PyData.depthAll (l.map arcD)) ≤ 1
    have := depth_arcs l
    rw [depth_arc]
    omega
theorem shaped_arcs {h : Hall} (hi : HallIn h) {l : List Arc} (ok : ∀ a ∈ l, ArcOk h a) : SeqAt.shaped (.tuple (l.map arcD)) = true := by
  show (PyData.canLayAll0 (l.map arcD) && decide (PyData.depthAll (l.map arcD) + 1 ≤ 64)) = true
  have := depth_arcs l
  rw [canLay_arcs hi ok, decide_eq_true (by omega)]
  rfl
theorem eqv_nilT {α : Type} (f : α → PyData) (l : List α) : PyData.eqv (.tuple (l.map f)) (.tuple []) = l.isEmpty := by cases l <;> rfl
/-! _law_is_walk -/
abbrev N__law_is_walk : List Str := ["hall", "thing", "met"]
def ws__law_is_walk : DS := (dSeq (dIf (dOr (dNot (dTru (dOwn 2 V__law_is_way (dCons (dVar 0) (dCons (dVar 1) dNil))))) (dTest (dOp wEq (dOp wIx (dVar 1) (dC (.int 1))) (dTup dNil)))) (dRet (dC (.bool false))) dNext)
  (dSeq (dSetD 2 (dCut (dOwn 2 V__law_met (dCons (dVar 0) (dCons (dVar 1) dNil))) (dSome (dC (.int 1))) dNo))
  (dRet (dAndV (dOp wEq (dOp wIx (dVar 2) (dNeg (dC (.int 1)))) (dOp wIx (dVar 0) (dC (.int 2)))) (dOp (wIn true) (dOp wIx (dVar 0) (dC (.int 2))) (dCut (dVar 2) dNo (dSome (dNeg (dC (.int 1))))))))))
abbrev W__law_is_walk : WF := runD N__law_is_walk ws__law_is_walk
abbrev V__law_is_walk : WF := V_is_walk
theorem w__law_is_walk {as : List Sl} {P : DK} (hv : V__law_is_walk as P) : W__law_is_walk as P := by
  obtain ⟨h, d, rfl, wi, p⟩ := hv
  refine ⟨rfl, h, d, rfl, wi, ?_⟩
  cases hw : isWayX h d with
  | false =>
    have e : isWalkX h d = false := by unfold isWalkX; rw [hw, Bool.false_and]
    rw [e] at p
    exact p
  | true =>
    obtain ⟨x, as, rfl, w⟩ := isWay_is hw
    have l6 := wi.len _ _ rfl
    rw [List.length_map] at l6
    have e : isWalkX h (wayD x as) = walkB h as := by unfold isWalkX; rw [hw, arcsOfD_way w, Bool.true_and]
    rw [e] at p
    unfold walkB at p
    refine ⟨_, rfl, leb rfl, shaped_arcs wi.hall w.arcs, rfl, ?_⟩
    show (if PyData.eqv (.tuple (as.map arcD)) (.tuple []) = true then _ else _)
    rw [eqv_nilT]
    rcases List.eq_nil_or_concat as with e0 | ⟨bs, b, e0⟩
    · subst e0
      exact p
    · rw [List.concat_eq_append] at e0
      subst e0
      have pos : 0 < (bs ++ [b]).length := by rw [List.length_append]; exact Nat.succ_pos _
      rw [decide_eq_true pos, Bool.true_and] at p
      have em : (bs ++ [b]).isEmpty = false := by cases bs <;> rfl
      rw [em]
      refine ⟨rfl, h, x, bs ++ [b], rfl, wi.hall, l6, w, ?_⟩
      have e2 : (bs ++ [b]).map (endH h) = bs.map (endH h) ++ [endH h b] := by rw [List.map_append]; rfl
      rw [e2, List.getLast?_concat, List.dropLast_concat] at p
      have e3 : Pd.cutD (strsD (metH h x (bs ++ [b]))) (some (1 : Int)) none = strsD (bs.map (endH h)) ++ [.str (endH h b)] := by
        unfold strsD metH
        rw [cutD_map, e2]
        have := cut_from (x :: (bs.map (endH h) ++ [endH h b])) 1
        rw [show cutA (x :: (bs.map (endH h) ++ [endH h b])) (some (1 : Int)) none = bs.map (endH h) ++ [endH h b] from this, List.map_append]
        rfl
      have e4 : decide (some (endH h b) = some h.fl) = decide (endH h b = h.fl) := by simp
      rw [e4] at p
      refine ⟨rfl, .str (endH h b), by rw [e3]; exact atI_last _ _, _, rfl, ?_⟩
      refine iteD (fun hl => ?_) (fun hl => ?_)
      · rw [decide_eq_true hl, Bool.true_and] at p
        have e5 : Pd.cutD (Pd.cutD (strsD (metH h x (bs ++ [b]))) (some (1 : Int)) none) none (some (-1 : Int)) = strsD (bs.map (endH h)) := by
          rw [e3]
          have e6 : strsD (bs.map (endH h)) ++ [.str (endH h b)] = (bs.map (endH h) ++ [endH h b]).map PyData.str := by rw [List.map_append]; rfl
          rw [e6, cutD_map, cut_butlast, List.dropLast_concat]
          rfl
        refine ⟨_, rfl, rfl, ?_, ?_⟩
        · show (Pd.cutD (Pd.cutD (strsD (metH h x (bs ++ [b]))) (some (1 : Int)) none) none (some (-1 : Int))).all flatX = true
          rw [e5]
          exact flat_strs _
        · show P (atom (.bool (!inX (.str h.fl) (Pd.cutD (Pd.cutD (strsD (metH h x (bs ++ [b]))) (some (1 : Int)) none) none (some (-1 : Int))))))
          rw [e5, inX_strs]
          exact p
      · rw [decide_eq_false hl, Bool.false_and] at p
        exact p
end Cm

namespace Cm
open PySem PySem.Spec PyProof.Rows L2 Vd Pd
/-! C16: ways home by the law -/
theorem while_gen {c : DT} {b : DS} {De : DEnds} (I : Nat → Ro → Prop)
    (step : ∀ (n : Nat) (ρ : Ro) (C : Ro → Prop), I n ρ → (∀ (m : Nat) (ρ' : Ro), m < n → I m ρ' → C ρ') → c ρ fun t => if t = true then b { De with nx := C, ct := C, bk := De.nx } ρ else De.nx ρ) :
    ∀ (k n : Nat) (ρ : Ro), n < k → I n ρ → whl c b De k ρ
  | 0, n, ρ, lt, _ => absurd lt (Nat.not_lt_zero _)
  | k + 1, n, ρ, lt, i => step n ρ (whl c b De k) i fun m ρ' lm im => while_gen I step k m ρ' (by omega) im
/-! what is found, by names -/
abbrev Found := List (Str × List Arc)
def foundD (f : Found) : List (PyData × PyData) := f.map fun q => (.str q.1, .tuple (q.2.map arcD))
def keysF (f : Found) : List Str := f.map (·.1)
theorem isKey_str (x y : Str) (d : PyData) : isKey (Sum.inr y) (.str x, d) = decide (x = y) := by
  unfold isKey
  show decide ((Sum.inr x : Key) = Sum.inr y) = decide (x = y)
  by_cases e : x = y
  · subst e; simp
  · rw [decide_eq_false e, decide_eq_false fun z => e (by injection z)]
theorem val_found {y : Str} : ∀ {f : Found}, y ∈ keysF f → ∃ l, (y, l) ∈ f ∧ valKD (foundD f) (Sum.inr y) = some (.tuple (l.map arcD))
  | q :: f, m => by
    obtain ⟨x, l⟩ := q
    by_cases e : x = y
    · subst e
      refine ⟨l, .head _, ?_⟩
      show ((foundD ((x, l) :: f)).find? (isKey (Sum.inr x))).map (·.2) = _
      show (((PyData.str x, PyData.tuple (l.map arcD)) :: foundD f).find? (isKey (Sum.inr x))).map (·.2) = _
      rw [List.find?_cons, isKey_str, decide_eq_true rfl]
      rfl
    · have m' : y ∈ keysF f := by
        rcases List.mem_cons.mp m with z | z
        · exact absurd z.symm e
        · exact z
      obtain ⟨l', m1, e1⟩ := val_found m'
      refine ⟨l', .tail _ m1, ?_⟩
      show (((PyData.str x, PyData.tuple (l.map arcD)) :: foundD f).find? (isKey (Sum.inr y))).map (·.2) = _
      rw [List.find?_cons, isKey_str, decide_eq_false e]
      exact e1
theorem val_none {y : Str} : ∀ {f : Found}, y ∉ keysF f → valKD (foundD f) (Sum.inr y) = none
  | [], _ => rfl
  | (x, l) :: f, n => by
    have e : x ≠ y := fun z => n (by rw [z]; exact .head _)
    show (((PyData.str x, PyData.tuple (l.map arcD)) :: foundD f).find? (isKey (Sum.inr y))).map (·.2) = _
    rw [List.find?_cons, isKey_str, decide_eq_false e]
    exact val_none fun m => n (.tail _ m)
theorem put_new {y : Str} {l : List Arc} {f : Found} (n : y ∉ keysF f) : putKD (foundD f) (Sum.inr y) (.tuple (l.map arcD)) = foundD (f ++ [(y, l)]) := by
  have no : ∀ {g : Found}, y ∉ keysF g → (foundD g).any (isKey (Sum.inr y)) = false := fun {g} => by
    induction g with
    | nil => exact fun _ => rfl
    | cons q g ih =>
      intro n
      obtain ⟨x, l'⟩ := q
      show (isKey (Sum.inr y) (PyData.str x, _) || (foundD g).any (isKey (Sum.inr y))) = false
      rw [isKey_str, decide_eq_false fun z => n (by rw [z]; exact .head _), ih fun m => n (.tail _ m)]
      rfl
  unfold putKD
  rw [if_neg (by rw [no n]; decide)]
  unfold foundD
  rw [List.map_append]
  rfl
/-- arcs that lead from one name to another, along a belt -/
def stepOf (y : Str) (t : ArcT) : Option Arc := if t.2.1 = y then (match t.1 with
  | .next _ => none
  | a => some a) else none
def stepsTo (h : Hall) (z y : Str) : List Arc := (arcsOf h z).filterMap (stepOf y)
theorem stepsTo_is {h : Hall} {z y : Str} (mz : z ∈ namesH h) : ∀ a ∈ stepsTo h z y, ArcOk h a ∧ startH h a = z ∧ endH h a = y := fun a ma => by
  obtain ⟨t, mt, et⟩ := List.mem_filterMap.mp ma
  obtain ⟨o, e1, _, e3⟩ := arcsOf_is mt mz
  unfold stepOf at et
  split at et
  · rename_i ey
    have : t.1 = a := by
      cases hq : t.1 with
      | next x => rw [hq] at et; cases et
      | down j => rw [hq] at et; cases et; rfl
      | up j => rw [hq] at et; cases et; rfl
    rw [← this]
    exact ⟨o, e3, by rw [← e1, ey]⟩
  · cases et
theorem steps_down {h : Hall} {m : Belt} (mm : m ∈ h.bs) : stepsTo h m.1 m.2.1 ≠ [] ∧ stepsTo h m.2.1 m.1 ≠ [] := by
  obtain ⟨j, ej⟩ := List.mem_iff_getElem?.mp mm
  have mj : (m, j) ∈ h.bs.zipIdx := List.mem_zipIdx_iff_getElem?.mpr ej
  have md : (Arc.down j, m.2.1, m.2.2.2) ∈ arcsOf h m.1 := List.mem_append_left _ (.tail _ (List.mem_filterMap.mpr ⟨_, mj, if_pos rfl⟩))
  have mu : (Arc.up j, m.1, m.2.2.1 - m.2.2.2) ∈ arcsOf h m.2.1 := List.mem_append_right _ (List.mem_filterMap.mpr ⟨_, mj, if_pos rfl⟩)
  constructor
  · intro e
    have : Arc.down j ∈ stepsTo h m.1 m.2.1 := List.mem_filterMap.mpr ⟨_, md, if_pos rfl⟩
    rw [e] at this
    cases this
  · intro e
    have : Arc.up j ∈ stepsTo h m.2.1 m.1 := List.mem_filterMap.mpr ⟨_, mu, if_pos rfl⟩
    rw [e] at this
    cases this
/-- what stands while names are sought -/
structure Seek (h : Hall) (f : Found) : Prop where
  fl : h.fl ∈ keysF f
  nod : (keysF f).Nodup
  sub : ∀ y ∈ keysF f, y ∈ namesH h
  ok : ∀ q ∈ f, WayOk h q.1 q.2 ∧ lastH h q.1 q.2 = h.fl
def Closed (h : Hall) (f : Found) (y : Str) : Prop := ∀ z ∈ namesH h, stepsTo h z y ≠ [] → z ∈ keysF f
theorem Seek.all {h : Hall} {f : Found} {most : Int} {many : Nat} (s : Seek h f) (ok : HOk most many h) (c : ∀ y ∈ keysF f, Closed h f y) : ∀ x ∈ namesH h, x ∈ keysF f := fun x mx => by
  obtain ⟨m, mm, rfl⟩ := List.mem_map.mp mx
  have r := ok.joined m mm
  have key : ∀ y, Reach h.bs h.fl y → y ∈ keysF f := fun y r => by
    induction r with
    | here => exact s.fl
    | @ahead y m _ mb e ih =>
      refine c y ih _ (ok.bs m mb).2.2.1 ?_
      rw [← e]
      exact (steps_down mb).2
    | @back y m _ mb e ih =>
      refine c y ih _ (ok.bs m mb).2.1 ?_
      rw [← e]
      exact (steps_down mb).1
  exact key _ r
theorem Seek.add {h : Hall} {f : Found} {z y : Str} {a : Arc} {l : List Arc} (s : Seek h f) (mz : z ∈ namesH h) (nz : z ∉ keysF f) (my : (y, l) ∈ f) (oa : ArcOk h a) (sa : startH h a = z) (ea : endH h a = y) : Seek h (f ++ [(z, a :: l)]) := by
  obtain ⟨w, last⟩ := s.ok _ my
  have e : keysF (f ++ [(z, a :: l)]) = keysF f ++ [z] := by unfold keysF; rw [List.map_append]; rfl
  refine ⟨by rw [e]; exact List.mem_append_left _ s.fl, ?_, fun x mx => ?_, fun q mq => ?_⟩
  · rw [e]
    refine List.nodup_append.mpr ⟨s.nod, by simp, fun x mx x' mx' => ?_⟩
    rw [List.mem_singleton.mp mx']
    exact fun q => nz (q ▸ mx)
  · rw [e] at mx
    rcases List.mem_append.mp mx with q | q
    · exact s.sub x q
    · rw [List.mem_singleton.mp q]; exact mz
  · rcases List.mem_append.mp mq with q' | q'
    · exact s.ok q q'
    · rw [List.mem_singleton.mp q']
      refine ⟨⟨mz, fun b mb => ?_, ?_⟩, ?_⟩
      · cases mb with
        | head => exact oa
        | tail _ mb => exact w.arcs b mb
      · show (decide (startH h a = z) && pathB h (endH h a) l) = true
        rw [decide_eq_true sa, ea]
        exact w.path
      · show lastH h z (a :: l) = h.fl
        rw [lastH_cons, ea]
        exact last
theorem Closed.more {h : Hall} {f g : Found} {y : Str} (c : Closed h f y) (sub : ∀ z ∈ keysF f, z ∈ keysF g) : Closed h g y := fun z mz ne => sub z (c z mz ne)
theorem keysF_len (f : Found) : (keysF f).length = f.length := List.length_map ..
theorem shaped_arcsL {h : Hall} (hi : HallIn h) {l : List Arc} (ok : ∀ a ∈ l, ArcOk h a) : SeqAt.shaped (.list (l.map arcD)) = true := by
  show (PyData.canLayAll0 (l.map arcD) && decide (PyData.depthAll (l.map arcD) + 1 ≤ 64)) = true
  have := depth_arcs l
  rw [canLay_arcs hi ok, decide_eq_true (by omega)]
  rfl
theorem HOk.hallIn {most : Int} {many : Nat} {h : Hall} (ok : HOk most many h) (many8 : many ≤ 8) : HallIn h := ⟨ok.few_ many8, fun x m => ok.nameLay m, fun m mm => ⟨(ok.bs m mm).2.1, (ok.bs m mm).2.2.1⟩⟩
theorem HOk.flIn {most : Int} {many : Nat} {h : Hall} (ok : HOk most many h) : h.fl ∈ namesH h := by
  obtain ⟨p, m, _⟩ := ok.pace
  exact List.mem_map.mpr ⟨_, m, rfl⟩
theorem nodup_sub_len {l r : List Str} (nod : l.Nodup) (sub : ∀ x ∈ l, x ∈ r) : l.length ≤ r.length := by
  induction l generalizing r with
  | nil => exact Nat.zero_le _
  | cons x l ih =>
    obtain ⟨nx, nl⟩ := List.nodup_cons.mp nod
    have mx := sub x (.head _)
    have := ih (r := r.erase x) nl fun y my => (List.mem_erase_of_ne (show y ≠ x from fun e => nx (e ▸ my))).mpr (sub y (.tail _ my))
    rw [List.length_erase_of_mem mx] at this
    have pos := List.length_pos_of_mem mx
    rw [List.length_cons]
    omega
/-! _law_home -/
abbrev N__law_home : List Str := ["hall", "name", "found", "line", "end", "other", "some", "arc", "its", "growth"]
def ws__law_home : DS := (dSeq (dPar (parOO 2 3) (dCons (dDicV (dOp wIx (dVar 0) (dC (.int 2))) (dTup dNil)) (dCons (dLst (dCons (dOp wIx (dVar 0) (dC (.int 2))) dNil)) dNil)))
  (dSeq (dWhile (dTest (dOp wNe (dVar 3) (dLst dNil)))
  (dSeq (dPop0 4 3)
  (dFor (dIter (dOwn 1 V__law_names (dCons (dVar 0) dNil))) (fun r ρ P => asgD 5 r ρ P)
  (dSeq (dSetD 6 (dLc (dIter (dOwn 2 V__law_arcs (dCons (dVar 0) (dCons (dVar 5) dNil)))) (wgTup 3 (wgCons (fun r ρ P => asgD 7 r ρ P) (wgCons (fun r ρ P => asgD 8 r ρ P) (wgCons (fun r ρ P => asgD 9 r ρ P) wgNil)))) (dAnd (dTest (dOp wEq (dVar 8) (dVar 4))) (dTest (dOp wNe (dOp wIx (dVar 7) (dC (.int 0))) (dC (.str "next"))))) (dVar 7) [7, 8, 9]))
  (dIf (dAnd (dTest (dInD true (dVar 5) (dVar 2))) (dTest (dOp wNe (dVar 6) (dLst dNil)))) (dSeq (dPutK 2 (dVar 5) (dOp wAdd (dTup (dCons (dOp wIx (dVar 6) (dC (.int 0))) dNil)) (dGetD (dVar 2) (dVar 4))))
  (dApp 3 (dVar 5))) dNext)))))
  (dRet (dGetD (dVar 2) (dVar 1)))))
abbrev W__law_home : WF := runD N__law_home ws__law_home
def V__law_home : WF := fun as P => ∃ (h : Hall) (x : Str) (most : Int) (many : Nat), as = [.dat (hallD h), .dat (.str x)] ∧ HOk most many h ∧ many ≤ 8 ∧ x ∈ namesH h ∧ ∀ l : List Arc, WayOk h x l → lastH h x l = h.fl → l.length ≤ 8 → P (.d (.tuple (l.map arcD)) .gd)
theorem w__law_home {as : List Sl} {P : DK} (hv : V__law_home as P) : W__law_home as P := by
  obtain ⟨h, x, most, many, rfl, ok, many8, mx, p⟩ := hv
  have hi := ok.hallIn many8
  have few := hi.few
  have fl := ok.flIn
  have n9 : (namesH h).length ≤ 9 := by
    have := ok.few
    unfold namesH
    rw [List.length_map]
    omega
  have lenF : ∀ {f : Found}, Seek h f → f.length ≤ 9 := fun {f} s => by
    have := nodup_sub_len s.nod s.sub
    rw [keysF_len] at this
    omega
  refine ⟨_, rfl, leb rfl, Sum.inr h.fl, rfl, rfl, _, rfl, leb rfl, rfl, rfl, 40, ?_⟩
  refine while_gen (fun n ρ => ∃ (f : Found) (q : List Str) (s4 s5 s6 : Sl), ρ = [.dat (hallD h), .dat (.str x), .own (.dict (foundD f)), .own (.list (strsD q)), s4, s5, s6, .un, .un, .un] ∧ Seek h f ∧ (∀ y ∈ q, y ∈ keysF f) ∧ (∀ y ∈ keysF f, y ∈ q ∨ Closed h f y) ∧ (∀ e ∈ f, e.2.length + 1 ≤ f.length) ∧ n = q.length + 2 * (10 - f.length) ∧ n ≤ 19) ?_ 40 19 _ (by decide)
    ⟨[(h.fl, [])], [h.fl], _, _, _, rfl, ⟨.head _, by show ([h.fl] : List Str).Nodup; simp, fun y my => by rw [List.mem_singleton.mp my]; exact fl, fun e me => by rw [List.mem_singleton.mp me]; exact ⟨⟨fl, fun a m => (nomatch m), rfl⟩, rfl⟩⟩, fun y my => my, fun y my => .inl my, fun e me => by rw [List.mem_singleton.mp me]; exact Nat.le_refl _, rfl, Nat.le_refl _⟩
  rintro n _ C ⟨f, q, s4, s5, s6, rfl, sk, qk, cl, ln, rfl, n19⟩ next
  have layq : ∀ y ∈ q, (PyData.str y).canLay0 = true := fun y my => hi.lay y (sk.sub y (qk y my))
  refine ⟨leb rfl, shaped_strs layq, rfl, ?_⟩
  cases q with
  | nil =>
    have mk := sk.all ok (fun y my => (cl y my).elim (fun z => nomatch z) id) x mx
    obtain ⟨l, ml, ev⟩ := val_found mk
    obtain ⟨w, last⟩ := sk.ok _ ml
    have l8 : l.length + 1 ≤ f.length := ln _ ml
    have := lenF sk
    exact ⟨Sum.inr x, rfl, _, ev, p l w last (by omega)⟩
  | cons y q =>
    have my : y ∈ keysF f := qk y (.head _)
    have n19' := n19
    rw [List.length_cons] at n19'
    refine ⟨rfl, h, rfl, few.1, rfl, ?_⟩
    refine for_gen PyData.str (fun done ρ => ∃ (g : Found) (r : List Str) (s5 s6 : Sl), ρ = [.dat (hallD h), .dat (.str x), .own (.dict (foundD g)), .own (.list (strsD r)), .dat (.str y), s5, s6, .un, .un, .un] ∧ Seek h g ∧ y ∈ keysF g ∧ (∀ z ∈ r, z ∈ keysF g) ∧ (∀ z ∈ keysF g, z = y ∨ z ∈ r ∨ Closed h g z) ∧ (∀ z ∈ done, stepsTo h z y ≠ [] → z ∈ keysF g) ∧ (∀ e ∈ g, e.2.length + 1 ≤ g.length) ∧ r.length + 2 * (10 - g.length) ≤ q.length + 2 * (10 - f.length) ∧ r.length ≤ q.length + done.length) (namesH h) _
      ⟨f, q, _, _, rfl, sk, my, fun z mz => qk z (.tail _ mz), fun z mz => by
        rcases cl z mz with c | c
        · rcases List.mem_cons.mp c with c | c
          · exact .inl c
          · exact .inr (.inl c)
        · exact .inr (.inr c), fun z mz => (nomatch mz), ln, Nat.le_refl _, Nat.le_refl _⟩ ?_ ?_
    · rintro done z rest _ C2 e ⟨g, r, s5, s6, rfl, sg, yg, rk, cg, dg, lg, mu, lr⟩ next2
      have mz : z ∈ namesH h := by rw [e]; exact List.mem_append_right _ (.head _)
      have la := arcs_len h z
      have f2 := few.2.1
      have g9 := lenF sg
      refine ⟨rfl, rfl, h, z, rfl, few.2.1, rfl, ?_⟩
      refine lc_gen arcT (fun t => (stepOf y t).map arcD) (arcsOf h z) [] (by simp; omega) (fun t mt acc k' few' nx => ?_) ?_
      · refine ⟨rfl, rfl, rfl, rfl, rfl, rfl, ?_⟩
        refine iteD (fun hc => ?_) (fun hc => ?_)
        · have n1 : decide (("down" : Str) = "next") = false := by decide +kernel
          have n2 : decide (("up" : Str) = "next") = false := by decide +kernel
          have n3 : decide (("next" : Str) = "next") = true := by decide +kernel
          obtain ⟨a, b, c⟩ := t
          cases a with
          | next w =>
            have e : stepOf y (.next w, b, c) = none := by unfold stepOf; split <;> rfl
            rw [e] at nx
            refine ⟨_, rfl, ?_⟩
            show k' acc
            rw [← List.append_nil acc]
            exact nx
          | down j =>
            have e : stepOf y (.down j, b, c) = some (.down j) := if_pos hc
            rw [e] at nx
            exact ⟨_, rfl, rfl, few', nx⟩
          | up j =>
            have e : stepOf y (.up j, b, c) = some (.up j) := if_pos hc
            rw [e] at nx
            exact ⟨_, rfl, rfl, few', nx⟩
        · have e : stepOf y t = none := if_neg hc
          rw [e] at nx
          rw [← List.append_nil acc]
          exact nx
      · rw [filter_map_map, List.nil_append]
        have st := stepsTo_is (y := y) mz
        have goal0 : (stepsTo h z y ≠ [] → z ∈ keysF g) → ∀ s5 s6, C2 [.dat (hallD h), .dat (.str x), .own (.dict (foundD g)), .own (.list (strsD r)), .dat (.str y), s5, s6, .un, .un, .un] := fun hz s5 s6 => next2 _ ⟨g, r, s5, s6, rfl, sg, yg, rk, cg, fun w mw => by
          rcases List.mem_append.mp mw with c | c
          · exact dg w c
          · rw [List.mem_singleton.mp c]; exact hz, lg, mu, by rw [List.length_append]; omega⟩
        refine ⟨rfl, Sum.inr z, rfl, ?_⟩
        by_cases hz : z ∈ keysF g
        · obtain ⟨l, _, ev⟩ := val_found hz
          show (if (!(valKD (foundD g) (Sum.inr z)).isSome) = true then _ else _)
          rw [ev]
          exact goal0 (fun _ => hz) _ _
        · show (if (!(valKD (foundD g) (Sum.inr z)).isSome) = true then _ else _)
          rw [val_none hz]
          refine ⟨leb rfl, shaped_arcsL hi fun a ma => (st a ma).1, rfl, ?_⟩
          show (if (!PyData.eqv (.list ((stepsTo h z y).map arcD)) (.list [])) = true then _ else _)
          cases hs : stepsTo h z y with
          | nil => exact goal0 (fun ne => absurd hs ne) _ _
          | cons a rs =>
            have ma : a ∈ stepsTo h z y := by rw [hs]; exact .head _
            obtain ⟨oa, sa, ea⟩ := st a ma
            obtain ⟨l, ml, ev⟩ := val_found yg
            have l8 : l.length + 1 ≤ g.length := lg _ ml
            have sg' := sg.add mz hz ml oa sa ea
            have eK : keysF (g ++ [(z, a :: l)]) = keysF g ++ [z] := by unfold keysF; rw [List.map_append]; rfl
            have inK : ∀ w ∈ keysF g, w ∈ keysF (g ++ [(z, a :: l)]) := fun w mw => by rw [eK]; exact List.mem_append_left _ mw
            have zK : z ∈ keysF (g ++ [(z, a :: l)]) := by rw [eK]; exact List.mem_append_right _ (.head _)
            have g9' := lenF sg'
            rw [List.length_append] at g9'
            have g9' : g.length + 1 ≤ 9 := g9'
            have ls : (strsD r).length = r.length := List.length_map ..
            have ld : (namesH h).length = done.length + (rest.length + 1) := by rw [e, List.length_append, List.length_cons]
            refine ⟨arcD a, by rw [show (arcsOf h z).filterMap (stepOf y) = a :: rs from hs]; exact atN (j := 0) rfl, leb rfl, Sum.inr y, rfl, _, ev, ?_, rfl, Sum.inr z, rfl, ?_, rfl, ?_, ?_⟩
            · show 1 + (l.map arcD).length ≤ 1000000
              rw [List.length_map]
              omega
            · unfold foundD
              rw [List.length_map]
              omega
            · rw [ls]
              omega
            · have ep : putKD (foundD g) (Sum.inr z) (.tuple ([arcD a] ++ l.map arcD)) = foundD (g ++ [(z, a :: l)]) := put_new (l := a :: l) hz
              have eS : strsD r ++ [.str z] = strsD (r ++ [z]) := by unfold strsD; rw [List.map_append]; rfl
              have := next2 [.dat (hallD h), .dat (.str x), .own (.dict (foundD (g ++ [(z, a :: l)]))), .own (.list (strsD (r ++ [z]))), .dat (.str y), .dat (.str z), .dat (.list ((stepsTo h z y).map arcD)), .un, .un, .un] ⟨g ++ [(z, a :: l)], r ++ [z], _, _, rfl, sg', inK y yg, fun w mw => ?_, fun w mw => ?_, fun w mw ne => ?_, fun q mq => ?_, ?_, ?_⟩
              · rw [← ep, ← eS] at this
                exact this
              · rcases List.mem_append.mp mw with c | c
                · exact inK w (rk w c)
                · rw [List.mem_singleton.mp c]; exact zK
              · rw [eK] at mw
                rcases List.mem_append.mp mw with c | c
                · rcases cg w c with c | c | c
                  · exact .inl c
                  · exact .inr (.inl (List.mem_append_left _ c))
                  · exact .inr (.inr (c.more inK))
                · exact .inr (.inl (List.mem_append_right _ c))
              · rcases List.mem_append.mp mw with c | c
                · exact inK w (dg w c ne)
                · rw [List.mem_singleton.mp c]; exact zK
              · rw [List.length_append]
                rcases List.mem_append.mp mq with c | c
                · have := lg q c
                  show q.2.length + 1 ≤ g.length + 1
                  omega
                · rw [List.mem_singleton.mp c]
                  show l.length + 1 + 1 ≤ g.length + 1
                  omega
              · rw [List.length_append, List.length_append]
                show r.length + 1 + 2 * (10 - (g.length + 1)) ≤ _
                omega
              · rw [List.length_append, List.length_append]
                show r.length + 1 ≤ q.length + (done.length + 1)
                omega
    · rintro _ ⟨g, r, s5, s6, rfl, sg, yg, rk, cg, dg, lg, mu, lr⟩
      refine next (r.length + 2 * (10 - g.length)) _ (by rw [List.length_cons]; omega) ⟨g, r, _, s5, s6, rfl, sg, rk, fun z mz => ?_, lg, rfl, by rw [List.length_cons] at n19; omega⟩
      rcases cg z mz with c | c | c
      · subst c
        exact .inr fun w mw ne => dg w mw ne
      · exact .inl c
      · exact .inr c
end Cm

namespace Cm
open PySem PySem.Spec PyProof.Rows L2 Vd Pd
/-! C17: drawn ways and walks -/
theorem pure_arcT (t : ArcT) : pure_ (arcT t) = true := by
  show (pure_ (arcD t.1) && (true && (true && true))) = true
  rw [pure_arc]
  rfl
theorem path_snoc (h : Hall) (a : Arc) : ∀ (l : List Arc) (x : Str), pathB h x (l ++ [a]) = (pathB h x l && decide (startH h a = lastH h x l))
  | [], x => by
    show (decide (startH h a = x) && true) = (true && decide (startH h a = x))
    rw [Bool.and_true, Bool.true_and]
  | b :: l, x => by
    show (decide (startH h b = x) && pathB h (endH h b) (l ++ [a])) = ((decide (startH h b = x) && pathB h (endH h b) l) && _)
    rw [path_snoc h a l, lastH_cons, Bool.and_assoc]
theorem WayOk.snoc {h : Hall} {x : Str} {l : List Arc} {a : Arc} (w : WayOk h x l) (oa : ArcOk h a) (sa : startH h a = lastH h x l) : WayOk h x (l ++ [a]) := by
  refine ⟨w.name, fun b mb => ?_, ?_⟩
  · rcases List.mem_append.mp mb with c | c
    · exact w.arcs b c
    · rw [List.mem_singleton.mp c]; exact oa
  · rw [path_snoc, w.path, decide_eq_true sa]
    rfl
theorem lastH_snoc (h : Hall) (x : Str) (l : List Arc) (a : Arc) : lastH h x (l ++ [a]) = endH h a := by
  unfold lastH
  rw [List.getLast?_concat]
/-! _law_way -/
abbrev N__law_way : List Str := ["bag", "hall", "many", "name", "begin", "arcs", "turn", "some", "arc", "growth"]
def ws__law_way : DS := (dSeq (dSetD 3 (dOwn 2 V__law_some (dCons (dVar 0) (dCons (dOwn 1 V__law_names (dCons (dVar 1) dNil)) dNil))))
  (dSeq (dPar (parDO 4 5) (dCons (dVar 3) (dCons (dLst dNil) dNil)))
  (dSeq (dFor (dRng1 (dCons (dOwn 2 V__law_take (dCons (dVar 0) (dCons (dOp wAdd (dVar 2) (dC (.int 1))) dNil))) dNil)) (fun r ρ P => asgD 6 r ρ P)
  (dSeq (dSetO 7 (dOwn 2 V__law_arcs (dCons (dVar 1) (dCons (dVar 3) dNil))))
  (dSeq (dAsg (dOwn 2 V__law_some (dCons (dVar 0) (dCons (dIfE (dTest (dOp wGt (dCall wLen (dCons (dVar 7) dNil)) (dC (.int 1)))) (dOp wAdd (dCut (dVar 7) (dSome (dC (.int 1))) dNo) (dVar 7)) (dVar 7)) dNil))) (wgTup 3 (wgCons (fun r ρ P => asgD 8 r ρ P) (wgCons (fun r ρ P => asgD 3 r ρ P) (wgCons (fun r ρ P => asgD 9 r ρ P) wgNil)))))
  (dApp 5 (dVar 8)))))
  (dRet (dTup (dCons (dVar 4) (dCons (dCall wTuple (dCons (dVar 5) dNil)) dNil)))))))
abbrev W__law_way : WF := runD N__law_way ws__law_way
def V__law_way : WF := fun as P => ∃ (h : Hall) (most : Int) (many n : Nat), as = [.bag, .dat (hallD h), .dat (.int (n : Nat))] ∧ HOk most many h ∧ many ≤ 8 ∧ n ≤ 100 ∧ ∀ (x : Str) (l : List Arc), WayOk h x l → l.length ≤ n → P (.d (wayD x l) .gd)
theorem w__law_way {as : List Sl} {P : DK} (hv : V__law_way as P) : W__law_way as P := by
  obtain ⟨h, most, many, n, rfl, ok, many8, n100, p⟩ := hv
  have hi := ok.hallIn many8
  have few := hi.few
  have ln : (strsD (namesH h)).length = h.ms.length := by unfold strsD namesH; rw [List.length_map, List.length_map]
  have pos : 0 < h.ms.length := by
    obtain ⟨_, m, _⟩ := ok.pace
    exact List.length_pos_of_mem m
  refine ⟨rfl, h, rfl, few.1, rfl, _, rfl, by rw [ln]; exact pos, by rw [ln]; have := few.1; omega, fun nx mnx => ?_⟩
  obtain ⟨x, mx, rfl⟩ := List.mem_map.mp mnx
  refine ⟨rfl, leb rfl, rfl, rfl, _, rfl, by show (0 : Int) < (n : Int) + 1; omega, by show (n : Int) + 1 < 1073741824; omega, fun k k0 k1 => ⟨by omega, by omega, rfl, ?_⟩⟩
  have k1' : k < (n : Int) + 1 := k1
  refine for_gen (fun i : Nat => PyData.int (0 + (i : Nat))) (fun done ρ => ∃ l s6 s7 s8 s9, ρ = [.bag, .dat (hallD h), .dat (.int (n : Nat)), .dat (.str (lastH h x l)), .dat (.str x), .own (.list (l.map arcD)), s6, s7, s8, s9] ∧ WayOk h x l ∧ l.length = done.length) _ _
    ⟨[], _, _, _, _, rfl, ⟨mx, fun a m => (nomatch m), rfl⟩, rfl⟩ ?_ ?_
  · rintro done i rest _ C e ⟨l, s6, s7, s8, s9, rfl, w, ll⟩ next
    have ld : k.toNat = done.length + (rest.length + 1) := by
      have := congrArg List.length e
      rwa [List.length_range, List.length_append, List.length_cons] at this
    have ml := hi.last w.name w.arcs
    have la := arcs_len h (lastH h x l)
    have f2 := few.2.1
    refine ⟨rfl, rfl, h, lastH h x l, rfl, few.2.1, ?_⟩
    have fin : ∀ De : DEnds, De.nx = C → ∀ t ∈ arcsOf h (lastH h x l), wgTup 3 (wgCons (fun r ρ P => asgD 8 r ρ P) (wgCons (fun r ρ P => asgD 3 r ρ P) (wgCons (fun r ρ P => asgD 9 r ρ P) wgNil))) (.d (arcT t) .gd) [.bag, .dat (hallD h), .dat (.int (n : Nat)), .dat (.str (lastH h x l)), .dat (.str x), .own (.list (l.map arcD)), .dat (.int (0 + (i : Nat))), .own (.list ((arcsOf h (lastH h x l)).map arcT)), s8, s9] fun ρ => dApp 5 (dVar 8) De ρ := fun De eD t mt => by
      subst eD
      obtain ⟨oa, e1, _, e3⟩ := arcsOf_is mt ml
      refine ⟨rfl, rfl, rfl, rfl, rfl, rfl, rfl, by rw [List.length_map]; omega, ?_⟩
      refine next _ ⟨l ++ [t.1], .dat (.int (0 + (i : Nat))), .own (.list ((arcsOf h (lastH h x l)).map arcT)), .dat (arcD t.1), .dat (.int t.2.2), ?_, w.snoc oa e3, by rw [List.length_append, List.length_append, ll]; rfl⟩
      rw [lastH_snoc, ← e1, List.map_append]
      rfl
    have la' : ((arcsOf h (lastH h x l)).map arcT).length = (arcsOf h (lastH h x l)).length := List.length_map ..
    have apos : 0 < (arcsOf h (lastH h x l)).length := by unfold arcsOf; rw [List.length_append, List.length_cons]; omega
    refine iteD (fun _ => ?_) (fun _ => ?_)
    · refine ⟨.inl rfl, .inr rfl, ?_, rfl, _, rfl, ?_, ?_, fun y my => ?_⟩
      · have := cut_len ((arcsOf h (lastH h x l)).map arcT) (some 1) none
        show (Pd.cutD ((arcsOf h (lastH h x l)).map arcT) (some 1) none).length + _ ≤ 1000000
        omega
      · rw [List.length_append]
        omega
      · have := cut_len ((arcsOf h (lastH h x l)).map arcT) (some 1) none
        show (Pd.cutD ((arcsOf h (lastH h x l)).map arcT) (some 1) none ++ _).length < 1000000
        rw [List.length_append]
        omega
      · have my' : y ∈ (arcsOf h (lastH h x l)).map arcT := by
          rcases List.mem_append.mp my with c | c
          · exact cut_mem c
          · exact c
        obtain ⟨t, mt, rfl⟩ := List.mem_map.mp my'
        exact fin _ rfl t mt
    · refine ⟨rfl, _, rfl, by omega, by omega, fun y my => ?_⟩
      obtain ⟨t, mt, rfl⟩ := List.mem_map.mp my
      show wgTup 3 _ (.d (arcT t) (flIf (pure_ (arcT t)) .gd)) _ _
      rw [pure_arcT]
      exact fin _ rfl t mt
  · rintro _ ⟨l, s6, s7, s8, s9, rfl, w, ll⟩
    rw [List.length_range] at ll
    exact ⟨leb rfl, p x l w (by omega)⟩
theorem path_app (h : Hall) : ∀ (l r : List Arc) (x : Str), pathB h x (l ++ r) = (pathB h x l && pathB h (lastH h x l) r)
  | [], r, x => by
    show pathB h x r = (true && pathB h x r)
    rw [Bool.true_and]
  | b :: l, r, x => by
    show (decide (startH h b = x) && pathB h (endH h b) (l ++ r)) = ((decide (startH h b = x) && pathB h (endH h b) l) && _)
    rw [path_app h l r, lastH_cons, Bool.and_assoc]
theorem WayOk.pre {h : Hall} {x : Str} {l r : List Arc} (w : WayOk h x (l ++ r)) : WayOk h x l := by
  refine ⟨w.name, fun a ma => w.arcs a (List.mem_append_left _ ma), ?_⟩
  have := w.path
  rw [path_app, Bool.and_eq_true] at this
  exact this.1
theorem WayOk.app {h : Hall} {x : Str} {l r : List Arc} (w : WayOk h x l) (v : WayOk h (lastH h x l) r) : WayOk h x (l ++ r) := by
  refine ⟨w.name, fun a ma => ?_, ?_⟩
  · rcases List.mem_append.mp ma with c | c
    · exact w.arcs a c
    · exact v.arcs a c
  · rw [path_app, w.path, v.path]
    rfl
/-! _law_walk -/
abbrev N__law_walk : List Str := ["bag", "hall", "many", "begin", "arcs", "name", "found", "arc", "one", "end", "growth", "home"]
def ws__law_walk : DS := (dSeq (dAsg (dOwn 3 V__law_way (dCons (dVar 0) (dCons (dVar 1) (dCons (dVar 2) dNil)))) (wgTup 2 (wgCons (fun r ρ P => asgD 3 r ρ P) (wgCons (fun r ρ P => asgD 4 r ρ P) wgNil))))
  (dSeq (dPar (parDO 5 6) (dCons (dVar 3) (dCons (dLst dNil) dNil)))
  (dSeq (dFor (dIter (dVar 4)) (fun r ρ P => asgD 7 r ρ P)
  (dSeq (dSetD 5 (dOp wIx (dLc (dIter (dOwn 2 V__law_arcs (dCons (dVar 1) (dCons (dVar 5) dNil)))) (wgTup 3 (wgCons (fun r ρ P => asgD 8 r ρ P) (wgCons (fun r ρ P => asgD 9 r ρ P) (wgCons (fun r ρ P => asgD 10 r ρ P) wgNil)))) (dTest (dOp wEq (dVar 8) (dVar 7))) (dVar 9) [8, 9, 10]) (dC (.int 0))))
  (dSeq (dApp 6 (dVar 7))
  (dIf (dTest (dOp wEq (dVar 5) (dOp wIx (dVar 1) (dC (.int 2))))) (dRet (dTup (dCons (dVar 3) (dCons (dCall wTuple (dCons (dVar 6) dNil)) dNil)))) dNext))))
  (dSeq (dSetD 11 (dOwn 2 V__law_home (dCons (dVar 1) (dCons (dVar 5) dNil))))
  (dRet (dIfE (dOr (dTest (dOp wNe (dVar 6) (dLst dNil))) (dTest (dOp wNe (dVar 11) (dTup dNil)))) (dTup (dCons (dVar 3) (dCons (dOp wAdd (dCall wTuple (dCons (dVar 6) dNil)) (dVar 11)) dNil))) (dTup (dCons (dVar 3) (dCons (dTup (dCons (dTup (dCons (dC (.str "next")) (dCons (dVar 3) dNil))) dNil)) dNil)))))))))
abbrev W__law_walk : WF := runD N__law_walk ws__law_walk
def V__law_walk : WF := fun as P => ∃ (h : Hall) (most : Int) (many n : Nat), as = [.bag, .dat (hallD h), .dat (.int (n : Nat))] ∧ HOk most many h ∧ many ≤ 8 ∧ n ≤ 100 ∧ ∀ (x : Str) (l : List Arc), WayOk h x l → l.length ≤ n + 9 → P (.d (wayD x l) .gd)
theorem w__law_walk {as : List Sl} {P : DK} (hv : V__law_walk as P) : W__law_walk as P := by
  obtain ⟨h, most, many, n, rfl, ok, many8, n100, p⟩ := hv
  have hi := ok.hallIn many8
  have few := hi.few
  refine ⟨rfl, h, most, many, n, rfl, ok, many8, n100, fun x l w ln => ⟨rfl, rfl, rfl, rfl, rfl, leb rfl, rfl, rfl, rfl, ?_⟩⟩
  refine for_gen arcD (fun done ρ => ∃ s7, ρ = [.bag, .dat (hallD h), .dat (.int (n : Nat)), .dat (.str x), .dat (.tuple (l.map arcD)), .dat (.str (lastH h x done)), .own (.list (done.map arcD)), s7, .un, .un, .un, .un]) l _ ⟨_, rfl⟩ ?_ ?_
  · rintro done a rest _ C e ⟨s7, rfl⟩ next
    have ma : a ∈ l := by rw [e]; exact List.mem_append_right _ (.head _)
    have oa := w.arcs a ma
    have ld : l.length = done.length + (rest.length + 1) := by rw [e, List.length_append, List.length_cons]
    have hs : startH h a = lastH h x done := path_mid h done x a rest (by rw [← e]; exact w.path)
    have ml := hi.last w.name (l := done) fun b mb => w.arcs b (by rw [e]; exact List.mem_append_left _ mb)
    have la := arcs_len h (lastH h x done)
    have f2 := few.2.1
    have wp : WayOk h x (done ++ [a]) := by
      have : WayOk h x (done ++ [a] ++ rest) := by rw [List.append_assoc]; rw [e] at w; exact w
      exact this.pre
    have aok : ∀ {b : Arc}, ArcOk h b → SeqAt.shaped (arcD b) = true := fun {b} o => shaped_arc fun y ey => by
      rw [ey] at o
      exact hi.lay y o
    refine ⟨rfl, rfl, h, lastH h x done, rfl, few.2.1, rfl, ?_⟩
    refine lc_gen arcT (fun t => (pickEnd a t).map PyData.str) (arcsOf h (lastH h x done)) [] (by simp; omega) (fun t mt acc k' few' nx => ?_) ?_
    · refine ⟨rfl, rfl, rfl, rfl, rfl, rfl, ?_⟩
      refine arc_same (b := t.1) (a := a) rfl rfl (aok (arcsOf_is mt ml).1) (aok oa) ?_
      refine iteD (fun hc => ?_) (fun hc => ?_)
      · have e : pickEnd a t = some t.2.1 := if_pos hc
        rw [e] at nx
        exact ⟨rfl, few', nx⟩
      · have e : pickEnd a t = none := if_neg hc
        rw [e] at nx
        rw [← List.append_nil acc]
        exact nx
    · rw [filter_map_map, List.nil_append]
      rcases pickEnd_is ml oa with ⟨_, r, e2⟩ | ⟨e1, _⟩
      · refine ⟨.str (endH h a), by rw [e2]; exact atN (j := 0) rfl, rfl, rfl, by rw [List.length_map]; omega, _, rfl, ?_⟩
        have eA : done.map arcD ++ [arcD a] = (done ++ [a]).map arcD := by rw [List.map_append]; rfl
        rw [eA]
        refine iteD (fun _ => ⟨leb rfl, p x _ wp (by rw [List.length_append]; show done.length + 1 ≤ n + 9; omega)⟩) (fun _ => next _ ⟨.dat (arcD a), ?_⟩)
        rw [lastH_snoc]
        rfl
      · exact absurd hs e1
  · rintro _ ⟨s7, rfl⟩
    have ml := hi.last w.name w.arcs
    refine ⟨rfl, h, lastH h x l, most, many, rfl, ok, many8, ml, fun l2 w2 last2 len2 => ⟨rfl, leb rfl, shaped_arcsL hi w.arcs, rfl, ?_⟩⟩
    have join : P (.d (wayD x (l ++ l2)) .gd) := p x _ (w.app w2) (by rw [List.length_append]; omega)
    have eJ : l.map arcD ++ l2.map arcD = (l ++ l2).map arcD := by rw [List.map_append]
    have lens : (l.map arcD).length + (l2.map arcD).length ≤ 1000000 := by rw [List.length_map, List.length_map]; omega
    have joinS : P (.d (.tuple [.str x, .tuple (l.map arcD ++ l2.map arcD)]) .gd) := by rw [eJ]; exact join
    cases l with
    | cons a l =>
      exact ⟨lens, leb rfl, joinS⟩
    | nil =>
      refine ⟨leb rfl, shaped_arcs hi w2.arcs, rfl, ?_⟩
      cases l2 with
      | cons b l2 => exact ⟨lens, leb rfl, joinS⟩
      | nil =>
        refine ⟨leb rfl, leb rfl, leb rfl, p x [.next x] ⟨w.name, fun a ma => by rw [List.mem_singleton.mp ma]; exact w.name, ?_⟩ (by show 1 ≤ n + 9; omega)⟩
        show (decide (x = x) && true) = true
        rw [decide_eq_true rfl]
        rfl
end Cm

namespace Cm
open PySem PySem.Spec PyProof.Rows L2 Vd Pd
/-! C11: the law of states -/
def V__law_alike : WF := fun as P => ∃ d : PyData, as = [.dat d, .dat d] ∧ Shows d ∧ d.depth ≤ 60 ∧ P (atom (.bool true))
theorem wgts_le {W : Nat} : ∀ {ds : List PyData}, (∀ d ∈ ds, Vd.wgt d ≤ W) → wgts ds ≤ ds.length * (W + 2)
  | [], _ => Nat.zero_le _
  | e :: es, h => by
    have a := h e (.head _)
    have b := wgts_le fun d m => h d (.tail _ m)
    show Vd.wgt e + 2 + wgts es ≤ (es.length + 1) * (W + 2)
    rw [Nat.add_mul]
    omega
theorem hall_plain {most : Int} {many : Nat} {h : Hall} (ok : HOk most many h) (many8 : many ≤ 8) (mostL : most ≤ 1000000) : Plain 700000 5 (hallD h) := by
  have int_ : ∀ i : Int, i.natAbs ≤ 1000000 → Plain 1921 0 (.int i) := fun i h => plain_int h
  have ms : ∀ d ∈ h.ms.map machD, Plain 23134 3 d := fun d md => by
    obtain ⟨m, mm, rfl⟩ := List.mem_map.mp md
    obtain ⟨t1, t2, l2, ps⟩ := ok.ms m mm
    have nm := plain_str (ok.nameOk (x := m.1) (List.mem_map.mpr ⟨m, mm, rfl⟩))
    have pp : Plain 7708 2 (pursesD m.2.2) := by
      refine Plain.tup (n := 2) (W := 3850) (D := 1) (fun e me => ?_) (by rw [List.length_map]; exact l2)
      obtain ⟨p, mp, rfl⟩ := List.mem_map.mp me
      obtain ⟨p1, p2, p3, p4⟩ := ps p mp
      refine Plain.tup (n := 2) (W := 1921) (D := 0) (fun e me => ?_) (Nat.le_refl _)
      simp only [List.mem_cons, List.not_mem_nil, or_false] at me
      rcases me with e | e <;> subst e
      · exact plain_int (by omega)
      · exact plain_int (by omega)
    refine Plain.tup (n := 3) (W := 7708) (D := 2) (fun e me => ?_) (Nat.le_refl _)
    simp only [List.mem_cons, List.not_mem_nil, or_false] at me
    rcases me with e | e | e <;> subst e
    · exact nm.more (by decide) (by decide)
    · exact (plain_int (by omega)).more (by decide) (by decide)
    · exact pp
  have bs : ∀ d ∈ h.bs.map beltD, Plain 7696 1 d := fun d m => by
    obtain ⟨b, mb, rfl⟩ := List.mem_map.mp m
    obtain ⟨_, n1, n2, r1, r2, f1, f2⟩ := ok.bs b mb
    refine Plain.tup (n := 4) (W := 1921) (D := 0) (fun e me => ?_) (Nat.le_refl _)
    simp only [List.mem_cons, List.not_mem_nil, or_false] at me
    rcases me with e | e | e | e <;> subst e
    · exact (plain_str (ok.nameOk n1)).more (by decide) (by decide)
    · exact (plain_str (ok.nameOk n2)).more (by decide) (by decide)
    · exact plain_int (by omega)
    · exact plain_int (by omega)
  have M := Plain.tup (n := 9) ms (by rw [List.length_map]; have := ok.few; omega)
  have B := Plain.tup (n := 10) bs (by rw [List.length_map]; have := ok.fewB; omega)
  have F : Plain 202 0 (.str h.fl) := plain_str (by rcases ok.fl with e | e <;> rw [e] <;> decide +kernel)
  refine (Plain.tup (n := 3) (W := 208228) (D := 4) (fun e me => ?_) (Nat.le_refl _)).more (by decide) (by decide)
  simp only [List.mem_cons, List.not_mem_nil, or_false] at me
  rcases me with e | e | e <;> subst e
  · exact M.more (by decide) (by decide)
  · exact B.more (by decide) (by decide)
  · exact F.more (by decide) (by decide)
theorem sum_low : ∀ {r : List Int}, r.length ≤ 2 → (∀ c ∈ r, c.natAbs ≤ 1000000) → r.sum.natAbs ≤ 2000000
  | [], _, _ => by simp
  | [a], _, h => by
    have := h a (.head _)
    show (a + 0).natAbs ≤ _
    omega
  | [a, b], _, h => by
    have := h a (.head _)
    have := h b (.tail _ (.head _))
    show (a + (b + 0)).natAbs ≤ _
    omega
  | _ :: _ :: _ :: _, l, _ => absurd l (by simp)
theorem ticks_low {x : Str} {a : Arc} {l : List (Mach × List Int)} (h : ∀ q ∈ l, (q.1.2.1 + q.2.sum).natAbs ≤ 100000000) : (ticksOf x a l).natAbs ≤ 100000000 := by
  unfold ticksOf
  have key : ∀ (l : List (Mach × List Int)) (t : Int), t.natAbs ≤ 100000000 → (∀ q ∈ l, (q.1.2.1 + q.2.sum).natAbs ≤ 100000000) → (l.foldl (fun t q => if giveB x a q.1 = true then q.1.2.1 + q.2.sum else t) t).natAbs ≤ 100000000 := fun l => by
    induction l with
    | nil => exact fun t ht _ => ht
    | cons q l ih =>
      intro t ht h
      rw [List.foldl_cons]
      refine ih _ ?_ fun q m => h q (.tail _ m)
      split
      · exact h q (.head _)
      · exact ht
  exact key l 0 (by decide) h
theorem behind_shows {most : Int} {many : Nat} {h : Hall} {rows : List (List Int)} {x : Str} {a : Arc} (ok : HOk most many h) (many8 : many ≤ 8) (mostL : most ≤ 1000000) (ro : RowsOk h rows) (lo : 0 ≤ growH h a) (en : nameOk (endH h a) = true) : Shows (behindD h x rows a) ∧ (behindD h x rows a).depth ≤ 60 := by
  have st := (plain_state en ((behind_ok (x := x) (a := a) ok ro lo).low ok many8 mostL)).fit
  have low := ro.low ok many8 mostL
  have tk := int_fit (ticks_low (x := x) (a := a) (l := h.ms.zip rows) fun q mq => by
    have mm := List.of_mem_zip mq
    obtain ⟨t1, t2, _⟩ := ok.ms _ mm.1
    obtain ⟨l2, c⟩ := low.2 _ mm.2
    have := sum_low l2 c
    omega)
  have f : Fit 70000 4 (behindD h x rows a) := by
    refine Fit.tupW (D := 3) (fun e me => ?_) ?_
    · simp only [List.mem_cons, List.not_mem_nil, or_false] at me
      rcases me with e | e <;> subst e
      · exact ⟨st.nice, st.txt, st.small, st.deep⟩
      · exact ⟨tk.nice, tk.txt, tk.small, Nat.le_trans tk.deep (by decide)⟩
    · have a1 := st.wgt
      have a2 := tk.wgt
      show Vd.wgt _ + 2 + (Vd.wgt _ + 2 + 0) + 4 ≤ 70000
      omega
  exact f.shows (by decide) (by decide)
theorem pair_shows {W D : Nat} {h : Hall} {d : PyData} (hp : Plain 700000 5 (hallD h)) (f : Fit W D d) (hw : W ≤ 1000000) (hd : D ≤ 50) : Shows (.list [hallD h, d]) ∧ (PyData.list [hallD h, d]).depth ≤ 60 := by
  have hf := hp.fit
  have g : Fit 2000000 51 (.list [hallD h, d]) := by
    refine Fit.lstW (D := 50) (fun e me => ?_) ?_
    · simp only [List.mem_cons, List.not_mem_nil, or_false] at me
      rcases me with e | e <;> subst e
      · exact ⟨hf.nice, Nat.le_trans hf.deep (by decide)⟩
      · exact ⟨f.nice, Nat.le_trans f.deep hd⟩
    · have a1 := hf.wgt
      have a2 := f.wgt
      show Vd.wgt _ + 2 + (Vd.wgt _ + 2 + 0) + 2 ≤ 2000000
      omega
  exact g.shows (by decide) (by decide)
/-! law -/
abbrev N_law : List Str := ["script", "bag", "turn", "hall", "name", "again", "state", "thing", "said", "arc", "end", "growth"]
def ws_law : DS := (dSeq (dFor (dRng1 (dCons (dC (.int 4)) dNil)) (fun r ρ P => asgD 2 r ρ P)
  (dSeq (dSetD 3 (dOwn 1 V__law_any_hall (dCons (dVar 1) dNil)))
  (dSeq (dFor (dIter (dOwn 1 V__law_names (dCons (dVar 3) dNil))) (fun r ρ P => asgD 4 r ρ P)
  (dIf (dNot (dTru (dOwn 2 V__law_alike (dCons (dOwn 2 V_full_state (dCons (dVar 3) (dCons (dVar 4) dNil))) (dCons (dTup (dCons (dVar 4) (dCons (dOwn 1 V__law_full (dCons (dVar 3) dNil)) dNil))) dNil))))) (dRet (dC (.bool false))) dNext))
  (dFor (dRng1 (dCons (dC (.int 6)) dNil)) (fun r ρ P => asgD 5 r ρ P)
  (dSeq (dSetD 6 (dOwn 2 V__law_drawn_state (dCons (dVar 1) (dCons (dVar 3) dNil))))
  (dSeq (dSetD 7 (dIfE (dTest (dOp wLt (dVar 5) (dC (.int 3)))) (dVar 6) (dOwn 3 (V__law_bent 4) (dCons (dVar 1) (dCons (dVar 6) (dCons (dC (.int 4)) dNil))))))
  (dSeq (dSetD 8 (dCall wRepr (dCons (dLst (dCons (dVar 3) (dCons (dVar 7) dNil))) dNil)))
  (dSeq (dIf (dOr (dNot (dTru (dOwn 2 V__law_alike (dCons (dOwn 2 V_is_state (dCons (dVar 3) (dCons (dVar 7) dNil))) (dCons (dOwn 2 V__law_is_state (dCons (dVar 3) (dCons (dVar 7) dNil))) dNil))))) (dTest (dOp wNe (dCall wRepr (dCons (dLst (dCons (dVar 3) (dCons (dVar 7) dNil))) dNil)) (dVar 8)))) (dRet (dC (.bool false))) dNext)
  (dFor (dIter (dOwn 2 V__law_arcs (dCons (dVar 3) (dCons (dOp wIx (dVar 6) (dC (.int 0))) dNil)))) (wgTup 3 (wgCons (fun r ρ P => asgD 9 r ρ P) (wgCons (fun r ρ P => asgD 10 r ρ P) (wgCons (fun r ρ P => asgD 11 r ρ P) wgNil))))
  (dIf (dNot (dTru (dOwn 2 V__law_alike (dCons (dOwn 3 V_behind (dCons (dVar 3) (dCons (dVar 6) (dCons (dVar 9) dNil)))) (dCons (dOwn 3 V__law_behind (dCons (dVar 3) (dCons (dVar 6) (dCons (dVar 9) dNil)))) dNil))))) (dRet (dC (.bool false))) dNext))))))))))
  (dRet (dC (.bool true))))
abbrev W_law : WF := runD N_law ws_law
abbrev lawRest : DS := (dSeq (dSetD 8 (dCall wRepr (dCons (dLst (dCons (dVar 3) (dCons (dVar 7) dNil))) dNil)))
  (dSeq (dIf (dOr (dNot (dTru (dOwn 2 V__law_alike (dCons (dOwn 2 V_is_state (dCons (dVar 3) (dCons (dVar 7) dNil))) (dCons (dOwn 2 V__law_is_state (dCons (dVar 3) (dCons (dVar 7) dNil))) dNil))))) (dTest (dOp wNe (dCall wRepr (dCons (dLst (dCons (dVar 3) (dCons (dVar 7) dNil))) dNil)) (dVar 8)))) (dRet (dC (.bool false))) dNext)
  (dFor (dIter (dOwn 2 V__law_arcs (dCons (dVar 3) (dCons (dOp wIx (dVar 6) (dC (.int 0))) dNil)))) (wgTup 3 (wgCons (fun r ρ P => asgD 9 r ρ P) (wgCons (fun r ρ P => asgD 10 r ρ P) (wgCons (fun r ρ P => asgD 11 r ρ P) wgNil))))
  (dIf (dNot (dTru (dOwn 2 V__law_alike (dCons (dOwn 3 V_behind (dCons (dVar 3) (dCons (dVar 6) (dCons (dVar 9) dNil)))) (dCons (dOwn 3 V__law_behind (dCons (dVar 3) (dCons (dVar 6) (dCons (dVar 9) dNil)))) dNil))))) (dRet (dC (.bool false))) dNext))))
theorem names_valid {most : Int} {many : Nat} {h : Hall} (ok : HOk most many h) : ∀ x ∈ namesH h, isNameX (.str x) = true := fun x m => by
  rcases ok.name m with e | e | e
  · exact (by decide +kernel : ∀ x ∈ eight, isNameX (.str x) = true) x e
  · subst e; decide +kernel
  · subst e; decide +kernel
theorem end_name {most : Int} {many : Nat} {h : Hall} (ok : HOk most many h) {a : Arc} (ao : ArcOk h a) : endH h a ∈ namesH h := by
  have at_ : ∀ j, j < h.bs.length → beltAt h j ∈ h.bs := fun j lt => by
    unfold beltAt
    rw [List.getD_eq_getElem?_getD, List.getElem?_eq_getElem lt]
    exact List.getElem_mem lt
  cases a with
  | next x => exact ao
  | down j => exact (ok.bs _ (at_ j ao)).2.2.1
  | up j => exact (ok.bs _ (at_ j ao)).2.1
theorem law_rest {h : Hall} {x : Str} {rows : List (List Int)} {d : PyData} {De : DEnds} {s2 s4 s5 s8 s9 s10 s11 : Sl} (ok : HOk 3 3 h) (mx : x ∈ namesH h) (ro : RowsOk h rows) (f : Fit 1000000 50 d)
    (next : ∀ s8 s9 s10 s11, De.nx [.un, .bag, s2, .dat (hallD h), s4, s5, .dat (stD x rows), .dat d, s8, s9, s10, s11]) :
    lawRest De [.un, .bag, s2, .dat (hallD h), s4, s5, .dat (stD x rows), .dat d, s8, s9, s10, s11] := by
  have few := ok.few_ (by decide)
  obtain ⟨sh, dp⟩ := pair_shows (hall_plain ok (by decide) (by decide)) f (by decide) (by decide)
  have bsh : ∀ b : Bool, Shows (.bool b) ∧ (PyData.bool b).depth ≤ 60 := fun b => (Fit.of (W := 5) (D := 0) (by cases b <;> decide +kernel) : Fit 5 0 (.bool b)).shows (by decide) (by decide)
  refine ⟨leb rfl, sh, dp, rfl, rfl, h, d, rfl, few, names_valid ok, f.txt, rfl, h, d, rfl, few, rfl, _, rfl, (bsh _).1, (bsh _).2, leb rfl, sh, dp, ?_⟩
  refine iteN (fun _ => ?_) (fun no => absurd rfl no)
  refine ⟨_, rfl, rfl, h, x, rfl, few.2.1, rfl, ?_⟩
  refine for_gen arcT (fun done ρ => ∃ s8 s9 s10 s11, ρ = [.un, .bag, s2, .dat (hallD h), s4, s5, .dat (stD x rows), .dat d, s8, s9, s10, s11]) (arcsOf h x) _ ⟨_, _, _, _, rfl⟩ ?_ ?_
  · rintro done t rest _ C e ⟨s8, s9, s10, s11, rfl⟩ next2
    have mt : t ∈ arcsOf h x := by rw [e]; exact List.mem_append_right _ (.head _)
    obtain ⟨ao, _, _, _⟩ := arcsOf_is mt mx
    obtain ⟨lo, hi⟩ := grow_low ok ao
    obtain ⟨sb, db⟩ := behind_shows (x := x) (rows := rows) (a := t.1) ok (by decide) (by decide) ro lo (ok.nameOk (end_name ok ao))
    have low := ro.low ok (by decide) (by decide)
    exact ⟨rfl, rfl, rfl, rfl, rfl, rfl, rfl, h, x, rows, t.1, rfl, few, ao, lo, hi, rfl, h, x, rows, t.1, rfl, few, mx, fun y my => ok.nameLay my, ⟨t, mt, rfl⟩, fun q mq => Nat.le_trans (low.2 _ (List.of_mem_zip mq).2).1 (by decide), lo, hi, rfl, _, rfl, sb, db, next2 _ ⟨_, _, _, _, rfl⟩⟩
  · rintro _ ⟨s8, s9, s10, s11, rfl⟩
    exact next _ _ _ _
theorem w_law : ws_law deLaw [.un, .bag, .un, .un, .un, .un, .un, .un, .un, .un, .un, .un] := by
  refine ⟨by decide, by decide, rfl, ?_⟩
  refine for_gen (fun i : Nat => PyData.int (0 + (i : Nat))) (fun done ρ => ∃ s2 s3 s4 s5 s6 s7 s8 s9 s10 s11, ρ = [.un, .bag, s2, s3, s4, s5, s6, s7, s8, s9, s10, s11]) _ _ ⟨_, _, _, _, _, _, _, _, _, _, rfl⟩ ?_ ?_
  · rintro done i rest _ C e ⟨s2, s3, s4, s5, s6, s7, s8, s9, s10, s11, rfl⟩ next
    refine ⟨rfl, rfl, rfl, fun h ok => ?_⟩
    have few := ok.few_ (by decide)
    refine ⟨rfl, rfl, h, rfl, few.1, rfl, ?_⟩
    refine for_gen PyData.str (fun done ρ => ∃ s4, ρ = [.un, .bag, .dat (.int (0 + (i : Nat))), .dat (hallD h), s4, s5, s6, s7, s8, s9, s10, s11]) (namesH h) _ ⟨_, rfl⟩ ?_ ?_
    · rintro done x rest _ C e ⟨s4, rfl⟩ next2
      have mx : x ∈ namesH h := by rw [e]; exact List.mem_append_right _ (.head _)
      obtain ⟨sh, dp⟩ := (plain_state (ok.nameOk mx) ((full_ok ok).low ok (by decide) (by decide))).shows (by decide) (by decide)
      exact ⟨rfl, rfl, h, x, rfl, few, rfl, h, rfl, few, leb rfl, rfl, _, rfl, sh, dp, next2 _ ⟨_, rfl⟩⟩
    · rintro _ ⟨s4, rfl⟩
      refine ⟨by decide, by decide, rfl, ?_⟩
      refine for_gen (fun i : Nat => PyData.int (0 + (i : Nat))) (fun done ρ => ∃ s5 s6 s7 s8 s9 s10 s11, ρ = [.un, .bag, .dat (.int (0 + (i : Nat))), .dat (hallD h), s4, s5, s6, s7, s8, s9, s10, s11]) _ _ ⟨_, _, _, _, _, _, _, rfl⟩ ?_ ?_
      · rintro done2 j rest2 _ C2 e2 ⟨s5, s6, s7, s8, s9, s10, s11, rfl⟩ next2
        refine ⟨rfl, rfl, h, 3, 3, rfl, ok, by decide, by decide, fun x rows mx ro => ⟨rfl, ?_⟩⟩
        have st := plain_state (ok.nameOk mx) (ro.low ok (by decide) (by decide))
        refine iteD (fun _ => ⟨rfl, ?_⟩) (fun _ => ⟨rfl, _, 40000, 3, rfl, st, by decide, by decide, fun d f => ⟨rfl, ?_⟩⟩)
        · exact law_rest ok mx ro (st.fit.more (by decide) (by decide)) fun _ _ _ _ => next2 _ ⟨_, _, _, _, _, _, _, rfl⟩
        · exact law_rest ok mx ro (f.more (by decide) (by decide)) fun _ _ _ _ => next2 _ ⟨_, _, _, _, _, _, _, rfl⟩
      · rintro _ ⟨s5, s6, s7, s8, s9, s10, s11, rfl⟩
        exact next _ ⟨_, _, _, _, _, _, _, _, _, _, rfl⟩
  · rintro _ ⟨s2, s3, s4, s5, s6, s7, s8, s9, s10, s11, rfl⟩
    rfl
end Cm

namespace Cm
open PySem PySem.Spec PyProof.Rows L2 Vd Pd
/-! C18: things near a way -/
theorem Fit.tup {W D n : Nat} {ds : List PyData} (h : ∀ d ∈ ds, Fit W D d) (len : ds.length ≤ n) : Fit (n * (W + 2) + 4) (D + 1) (.tuple ds) := by
  have a := wgts_le fun d m => (h d m).wgt
  have b := Nat.mul_le_mul_right (W + 2) len
  exact Fit.tupW (fun d m => ⟨(h d m).nice, (h d m).txt, (h d m).small, (h d m).deep⟩) (by omega)
theorem Fit.lst {W D n : Nat} {ds : List PyData} (h : ∀ d ∈ ds, Fit W D d) (len : ds.length ≤ n) : Fit (n * (W + 2) + 2) (D + 1) (.list ds) := by
  have a := wgts_le fun d m => (h d m).wgt
  have b := Nat.mul_le_mul_right (W + 2) len
  exact Fit.lstW (fun d m => ⟨(h d m).nice, (h d m).deep⟩) (by omega)
theorem arc_plain {most : Int} {many : Nat} {h : Hall} (ok : HOk most many h) (many8 : many ≤ 8) {a : Arc} (oa : ArcOk h a) : Plain 1971 1 (arcD a) := by
  have fb := ok.fewB
  cases a with
  | next x =>
    have nx := plain_str (ok.nameOk (show x ∈ namesH h from oa))
    refine ⟨?_, ?_, by rw [depth_arc]; exact Nat.le_refl _⟩
    · show (plain (.str "next") && (plain (.str x) && true)) = true
      rw [nx.is]
      decide +kernel
    · have := nx.wgt
      show 42 + 2 + (Vd.wgt (.str x) + 2 + 0) + 4 ≤ 1971
      omega
  | down j =>
    have lt : j < h.bs.length := oa
    refine ⟨?_, ?_, by rw [depth_arc]; exact Nat.le_refl _⟩
    · show (plain (.str "down") && (decide ((j : Int).natAbs ≤ 1000000) && true)) = true
      rw [decide_eq_true (by omega)]
      decide +kernel
    · show 42 + 2 + (1921 + 2 + 0) + 4 ≤ 1971
      decide
  | up j =>
    have lt : j < h.bs.length := oa
    refine ⟨?_, ?_, by rw [depth_arc]; exact Nat.le_refl _⟩
    · show (plain (.str "up") && (decide ((j : Int).natAbs ≤ 1000000) && true)) = true
      rw [decide_eq_true (by omega)]
      decide +kernel
    · show 22 + 2 + (1921 + 2 + 0) + 4 ≤ 1971
      decide
theorem way_plain {most : Int} {many : Nat} {h : Hall} (ok : HOk most many h) (many8 : many ≤ 8) {x : Str} {l : List Arc} (w : WayOk h x l) (len : l.length ≤ 15) : Plain 40000 3 (wayD x l) := by
  have A := Plain.tup (n := 15) (W := 1971) (D := 1) (ds := l.map arcD) (fun d md => by
    obtain ⟨a, ma, rfl⟩ := List.mem_map.mp md
    exact arc_plain ok many8 (w.arcs a ma)) (by rw [List.length_map]; exact len)
  have X := plain_str (ok.nameOk w.name)
  refine ⟨?_, ?_, ?_⟩
  · show (plain (.str x) && (plain (.tuple (l.map arcD)) && true)) = true
    rw [X.is, A.is]
    rfl
  · have a := X.wgt
    have b := A.wgt
    show Vd.wgt (.str x) + 2 + (Vd.wgt (.tuple (l.map arcD)) + 2 + 0) + 4 ≤ 40000
    omega
  · have := A.deep
    show max 0 (max (PyData.tuple (l.map arcD)).depth 0) + 1 ≤ 3
    omega
/-! _law_near_way -/
abbrev N__law_near_way : List Str := ["bag", "hall", "way", "begin", "arcs", "menu"]
def ws__law_near_way : DS := (dSeq (dAsg (dVar 2) (wgTup 2 (wgCons (fun r ρ P => asgD 3 r ρ P) (wgCons (fun r ρ P => asgD 4 r ρ P) wgNil))))
  (dSeq (dSetO 5 (dLst (dCons (dTup (dCons (dVar 3) (dCons (dCall wList (dCons (dVar 4) dNil)) dNil))) (dCons (dLst (dCons (dVar 3) (dCons (dVar 4) dNil))) (dCons (dTup (dCons (dVar 3) (dCons (dCut (dVar 4) (dSome (dC (.int 1))) dNo) dNil))) (dCons (dTup (dCons (dVar 3) (dCons (dCut (dVar 4) dNo (dSome (dNeg (dC (.int 1))))) dNil))) (dCons (dTup (dCons (dVar 3) (dCons (dOp wAdd (dVar 4) (dCut (dVar 4) dNo (dSome (dC (.int 1))))) dNil))) (dCons (dTup (dCons (dVar 3) (dCons (dRev (dVar 4)) dNil))) (dCons (dOp wAdd (dVar 2) (dTup dNil)) dNil)))))))))
  (dSeq (dExt 5 (dLst (dCons (dTup (dCons (dOwn 2 V__law_some (dCons (dVar 0) (dCons (dOp wAdd (dOwn 1 V__law_names (dCons (dVar 1) dNil)) (dLst (dCons (dC (.str "nobody")) dNil))) dNil))) (dCons (dVar 4) dNil))) (dCons (dTup (dCons (dVar 3) dNil)) (dCons (dTup (dCons (dVar 3) (dCons (dVar 4) (dCons (dC (.int 0)) dNil)))) (dCons (dTup (dCons (dVar 3) (dCons (dOp wAdd (dTup (dCons (dTup (dCons (dC (.str "up")) (dCons (dC (.bool true)) dNil))) dNil)) (dVar 4)) dNil))) (dCons (dVar 4) dNil)))))))
  (dSeq (dExt 5 (dLst (dCons (dTup (dCons (dVar 3) (dCons (dOp wAdd (dVar 4) (dTup (dCons (dTup (dCons (dC (.str "next")) (dCons (dVar 3) dNil))) dNil))) dNil))) (dCons (dTup (dCons (dVar 3) (dCons (dTup (dCons (dTup (dCons (dC (.str "down")) (dCons (dC (.int 0)) dNil))) dNil)) dNil))) (dCons (dTup (dCons (dVar 3) (dCons (dTup (dCons (dTup (dCons (dC (.str "up")) (dCons (dNeg (dC (.int 1))) dNil))) dNil)) dNil))) (dCons (dTup (dCons (dVar 3) (dCons (dTup (dCons (dTup (dCons (dC (.str "next")) (dCons (dC (.str "nobody")) dNil))) dNil)) dNil))) (dCons (dC .none) dNil)))))))
  (dRet (dOwn 2 V__law_some (dCons (dVar 0) (dCons (dOp wAdd (dVar 5) (dLst (dCons (dOwn 3 (V__law_bent 4) (dCons (dVar 0) (dCons (dVar 2) (dCons (dC (.int 4)) dNil)))) (dCons (dOwn 3 (V__law_bent 4) (dCons (dVar 0) (dCons (dVar 2) (dCons (dC (.int 4)) dNil)))) (dCons (dOwn 3 (V__law_bent 4) (dCons (dVar 0) (dCons (dVar 2) (dCons (dC (.int 4)) dNil)))) dNil))))) dNil))))))))
abbrev W__law_near_way : WF := runD N__law_near_way ws__law_near_way
def V__law_near_way : WF := fun as P => ∃ (h : Hall) (most : Int) (many : Nat) (x : Str) (l : List Arc), as = [.bag, .dat (hallD h), .dat (wayD x l)] ∧ HOk most many h ∧ many ≤ 8 ∧ WayOk h x l ∧ l.length ≤ 15 ∧ ∀ d, Fit 1000000 50 d → P (.d d .gd)
theorem w__law_near_way {as : List Sl} {P : DK} (hv : V__law_near_way as P) : W__law_near_way as P := by
  obtain ⟨h, most, many, x, l, rfl, ok, many8, w, len, p⟩ := hv
  have few := ok.few_ many8
  have wp := way_plain ok many8 w len
  have lm : (l.map arcD).length ≤ 15 := by rw [List.length_map]; exact len
  have ln : (strsD (namesH h)).length = h.ms.length := by unfold strsD namesH; rw [List.length_map, List.length_map]
  have ms9 := ok.few
  have X : Fit 2200 1 (.str x) := ((plain_str (ok.nameOk w.name)).fit).more (by decide) (by decide)
  have arcs : ∀ d ∈ l.map arcD, Fit 2200 1 d := fun d md => by
    obtain ⟨a, ma, rfl⟩ := List.mem_map.mp md
    exact (arc_plain ok many8 (w.arcs a ma)).fit.more (by decide) (by decide)
  -- a name and arcs
  have T : ∀ ds : List PyData, (∀ d ∈ ds, Fit 2200 1 d) → ds.length ≤ 40 → Fit 90000 2 (.tuple ds) := fun ds hd le => (Fit.tup hd le).more (by decide) (by decide)
  have pair : ∀ y z : PyData, Fit 90000 3 y → Fit 90000 3 z → P (.d (.tuple [y, z]) .gd) := fun y z hy hz => p _ ((Fit.tup (n := 2) (W := 90000) (D := 3) (fun d md => by
    simp only [List.mem_cons, List.not_mem_nil, or_false] at md
    rcases md with e | e <;> subst e
    · exact hy
    · exact hz) (Nat.le_refl _)).more (by decide) (by decide))
  have XX : Fit 90000 3 (.str x) := X.more (by decide) (by decide)
  have tup : ∀ ds : List PyData, (∀ d ∈ ds, Fit 2200 1 d) → ds.length ≤ 40 → P (.d (.tuple [.str x, .tuple ds]) .gd) := fun ds hd le => pair _ _ XX ((T ds hd le).more (by decide) (by decide))
  have AA : Fit 90000 3 (.tuple (l.map arcD)) := (T _ arcs (by omega)).more (by decide) (by decide)
  have nx : Fit 2200 1 (.tuple [.str "next", .str x]) := (Fit.tup (n := 2) (W := 1000) (D := 0) (fun d md => by
    simp only [List.mem_cons, List.not_mem_nil, or_false] at md
    rcases md with e | e <;> subst e
    · exact Fit.of (by decide +kernel)
    · exact ((plain_str (ok.nameOk w.name)).fit).more (by decide) (by decide)) (Nat.le_refl _)).more (by decide) (by decide)
  have small : ∀ {d : PyData}, (Vd.nice d && Cm.txt d && Cm.small d && decide (Vd.wgt d ≤ 2200) && decide (d.depth ≤ 1)) = true → Fit 2200 1 d := fun h => Fit.of h
  refine ⟨rfl, rfl, rfl, rfl, rfl, leb rfl, leb rfl, leb rfl, leb rfl, ?_, leb rfl, leb rfl, leb rfl, leb rfl, leb rfl, ?_⟩
  · have := cut_len (l.map arcD) none (some 1)
    show (l.map arcD).length + (Pd.cutD (l.map arcD) none (some 1)).length ≤ 1000000
    omega
  refine ⟨rfl, h, rfl, few.1, leb rfl, .inl rfl, .inl rfl, ?_, rfl, _, rfl, ?_, ?_, fun nm mnm => ?_⟩
  · rw [ln]; show h.ms.length + 1 ≤ 1000000; omega
  · rw [List.length_append]; exact Nat.succ_pos _
  · rw [List.length_append, ln]; show h.ms.length + 1 < 1000000; omega
  have NM : Fit 90000 3 nm := by
    rcases List.mem_append.mp mnm with c | c
    · obtain ⟨y, my, rfl⟩ := List.mem_map.mp c
      exact ((plain_str (ok.nameOk my)).fit).more (by decide) (by decide)
    · rw [List.mem_singleton.mp c]
      exact (Fit.of (W := 2200) (D := 1) (by decide +kernel)).more (by decide) (by decide)
  refine ⟨leb rfl, leb rfl, leb rfl, leb rfl, leb rfl, by show 1 + (l.map arcD).length ≤ 1000000; omega, leb rfl, leb rfl, .inl rfl, leb rfl, ?_⟩
  refine ⟨leb rfl, leb rfl, by show (l.map arcD).length + 1 ≤ 1000000; omega, leb rfl, leb rfl, leb rfl, leb rfl, leb rfl, leb rfl, leb rfl, leb rfl, leb rfl, leb rfl, leb rfl, .inl rfl, leb rfl, ?_⟩
  refine ⟨rfl, wayD x l, 40000, 3, rfl, wp, by decide, by decide, fun b1 f1 => ⟨rfl, wayD x l, 40000, 3, rfl, wp, by decide, by decide, fun b2 f2 => ⟨rfl, wayD x l, 40000, 3, rfl, wp, by decide, by decide, fun b3 f3 => ⟨leb rfl, .inr rfl, .inl rfl, leb rfl, rfl, _, rfl, leb rfl, leb rfl, fun y my => ?_⟩⟩⟩⟩
  have sub : ∀ (lo hi : Option Int), ∀ d ∈ Pd.cutD (l.map arcD) lo hi, Fit 2200 1 d := fun lo hi d md => arcs d (cut_mem md)
  have cl : ∀ (lo hi : Option Int), (Pd.cutD (l.map arcD) lo hi).length ≤ 15 := fun lo hi => Nat.le_trans (cut_len _ _ _) lm
  have cat : ∀ (as bs : List PyData), (∀ d ∈ as, Fit 2200 1 d) → (∀ d ∈ bs, Fit 2200 1 d) → ∀ d ∈ as ++ bs, Fit 2200 1 d := fun as bs ha hb d md => (List.mem_append.mp md).elim (ha d) (hb d)
  have one : ∀ (d : PyData), Fit 2200 1 d → ∀ e ∈ [d], Fit 2200 1 e := fun d hd e me => by rw [List.mem_singleton.mp me]; exact hd
  have big : ∀ b, Fit (bentW 4 40000) (3 + 4 + 4) b → P (.d b .gd) := fun b f => p b (f.more (by decide) (by decide))
  simp only [List.cons_append, List.nil_append, List.mem_cons, List.not_mem_nil, or_false] at my
  rcases my with e | e | e | e | e | e | e | e | e | e | e | e | e | e | e | e | e | e | e | e <;> subst e
  · exact pair _ _ XX ((Fit.lst (n := 15) arcs lm).more (by decide) (by decide))
  · exact p _ ((Fit.lst (n := 2) (W := 90000) (D := 3) (fun d md => by
      simp only [List.mem_cons, List.not_mem_nil, or_false] at md
      rcases md with e | e <;> subst e
      · exact XX
      · exact AA) (Nat.le_refl _)).more (by decide) (by decide))
  · exact tup _ (sub _ _) (by have := cl (some 1) none; omega)
  · exact tup _ (sub _ _) (by have := cl none (some (-1)); omega)
  · exact tup _ (cat _ _ arcs (sub _ _)) (by rw [List.length_append]; have := cl none (some 1); omega)
  · exact tup _ (fun d md => arcs d (List.mem_reverse.mp md)) (by rw [List.length_reverse]; omega)
  · exact p _ (wp.fit.more (by decide) (by decide))
  · exact pair _ _ NM AA
  · exact p _ ((Fit.tup (n := 1) (one _ X) (Nat.le_refl _)).more (by decide) (by decide))
  · exact p _ ((Fit.tup (n := 3) (W := 90000) (D := 3) (fun d md => by
      simp only [List.mem_cons, List.not_mem_nil, or_false] at md
      rcases md with e | e | e <;> subst e
      · exact XX
      · exact AA
      · exact (small (d := .int 0) (by decide +kernel)).more (by decide) (by decide)) (Nat.le_refl _)).more (by decide) (by decide))
  · exact tup _ (cat _ _ (one _ (small (by decide +kernel))) arcs) (by show (l.map arcD).length + 1 ≤ 40; omega)
  · exact p _ (AA.more (by decide) (by decide))
  · exact tup _ (cat _ _ arcs (one _ nx)) (by rw [List.length_append]; show _ + 1 ≤ 40; omega)
  · exact tup _ (one _ (small (by decide +kernel))) (by decide)
  · exact tup _ (one _ (small (by decide +kernel))) (by decide)
  · exact tup _ (one _ (small (by decide +kernel))) (by decide)
  · exact p _ ((small (d := .none) (by decide +kernel)).more (by decide) (by decide))
  · exact big _ f1
  · exact big _ f2
  · exact big _ f3
end Cm

namespace Cm
open PySem PySem.Spec PyProof.Rows L2 Vd Pd
/-! C19: how long answers about ways are; the law of ways -/
theorem sums_le {W : Nat} : ∀ {ts : List Str}, (∀ t ∈ ts, t.length ≤ W) → sums ts ≤ ts.length * (W + 2)
  | [], _ => Nat.zero_le _
  | t :: ts, h => by
    have a := h t (.head _)
    have b := sums_le fun d m => h d (.tail _ m)
    rw [sums_cons, List.length_cons, Nat.add_mul]
    omega
theorem shownAll_map : ∀ ds : List PyData, PyData.shownAll ds = ds.map PyData.shown
  | [] => by simp [PyData.shownAll]
  | d :: ds => by simp [PyData.shownAll, shownAll_map ds]
theorem int_shown {i : Int} (h : i.natAbs < 10 ^ 8) : (PyData.int i).shown.length ≤ 9 := by
  simp only [PyData.shown]
  rw [PySem.ofString_length]
  exact int_text_length_le10 (k := 8) (by decide) h
theorem ints_shown {ns : List Int} (h : ∀ n ∈ ns, n.natAbs < 10 ^ 8) : (PyData.tuple (intsD ns)).shown.length ≤ 11 * ns.length + 4 := by
  simp only [PyData.shown]
  have a := tup_le (PyData.shownAll (intsD ns))
  have b : sums (PyData.shownAll (intsD ns)) ≤ (PyData.shownAll (intsD ns)).length * (9 + 2) := sums_le fun t m => by
    rw [shownAll_map] at m
    obtain ⟨d, md, rfl⟩ := List.mem_map.mp m
    obtain ⟨n, mn, rfl⟩ := List.mem_map.mp md
    exact int_shown (h n mn)
  have c : (PyData.shownAll (intsD ns)).length = ns.length := by
    rw [shownAll_map, List.length_map]
    exact List.length_map ..
  rw [c] at b
  omega
theorem pieces_shown {ps : List (Str × Int)} (h : ∀ q ∈ ps, nameOk q.1 = true ∧ q.2.natAbs < 10 ^ 8) : (PyData.tuple (ps.map pieceD)).shown.length ≤ 221 * ps.length + 4 := by
  simp only [PyData.shown]
  have a := tup_le (PyData.shownAll (ps.map pieceD))
  have b : sums (PyData.shownAll (ps.map pieceD)) ≤ (PyData.shownAll (ps.map pieceD)).length * (219 + 2) := sums_le fun t m => by
    rw [shownAll_map] at m
    obtain ⟨d, md, rfl⟩ := List.mem_map.mp m
    obtain ⟨q, mq, rfl⟩ := List.mem_map.mp md
    obtain ⟨h1, h2⟩ := h q mq
    have s1 := shown_le (.str q.1) (plain_str h1).fit.nice
    have s2 := (plain_str h1).wgt
    have s3 := int_shown h2
    have s4 := tup_le (PyData.shownAll [.str q.1, .int q.2])
    have e : sums (PyData.shownAll [.str q.1, .int q.2]) = (PyData.str q.1).shown.length + 2 + ((PyData.int q.2).shown.length + 2 + 0) := by
      rw [shownAll_map]
      show sums [(PyData.str q.1).shown, (PyData.int q.2).shown] = _
      rw [sums_cons, sums_cons]
      rfl
    show (PyData.tuple [.str q.1, .int q.2]).shown.length ≤ 219
    simp only [PyData.shown] at s1 s3 s4 e ⊢
    omega
  have c : (PyData.shownAll (ps.map pieceD)).length = ps.length := by
    rw [shownAll_map, List.length_map]
    exact List.length_map ..
  rw [c] at b
  omega
/-! ### what is told of a way -/
def toldD (h : Hall) (x : Str) (l : List Arc) : PyData := .list [.str (lastH h x l), .tuple (intsD (sumsH h l)), .int (totalH h l), .tuple ((endedH h l).map pieceD)]
theorem total_low {h : Hall} {most : Int} {many : Nat} (ok : HOk most many h) : ∀ {l : List Arc}, (∀ a ∈ l, ArcOk h a) → 0 ≤ totalH h l ∧ totalH h l ≤ 5 * l.length
  | [], _ => ⟨Int.le_refl _, by show (0 : Int) ≤ 5 * ((0 : Nat) : Int); omega⟩
  | a :: l, w => by
    have e : totalH h (a :: l) = growH h a + totalH h l := by unfold totalH; rw [List.map_cons, List.sum_cons]
    have ih := total_low ok (l := l) fun b m => w b (.tail _ m)
    have g := grow_low ok (w a (.head _))
    rw [e, List.length_cons]
    omega
theorem sums_low {h : Hall} {most : Int} {many : Nat} (ok : HOk most many h) {l : List Arc} (w : ∀ a ∈ l, ArcOk h a) (len : l.length ≤ 20000) : ∀ n ∈ sumsH h l, n.natAbs < 10 ^ 8 := fun n mn => by
  unfold sumsH at mn
  obtain ⟨k, mk, rfl⟩ := List.mem_map.mp mn
  have t := total_low ok (l := l.take k) fun a m => w a (List.mem_of_mem_take m)
  have : (l.take k).length ≤ l.length := by rw [List.length_take]; omega
  have e : (10 : Nat) ^ 8 = 100000000 := by decide
  omega
theorem ended_low {h : Hall} {most : Int} {many : Nat} (ok : HOk most many h) (many8 : many ≤ 8) {l : List Arc} (w : ∀ a ∈ l, ArcOk h a) (len : l.length ≤ 20000) : (endedH h l).length ≤ 20000 ∧ ∀ q ∈ endedH h l, nameOk q.1 = true ∧ q.2.natAbs < 10 ^ 8 := by
  constructor
  · unfold endedH
    have := List.length_filterMap_le (pieceOf h) (l.zip (sumsH h l))
    rw [List.length_zip] at this
    omega
  · intro q mq
    unfold endedH at mq
    obtain ⟨z, mz, ez⟩ := List.mem_filterMap.mp mq
    unfold pieceOf at ez
    split at ez
    · cases ez
      have mm := List.of_mem_zip mz
      exact ⟨ok.nameOk ((ok.hallIn many8).ends (w _ mm.1)).1, sums_low ok w len _ mm.2⟩
    · cases ez
theorem nice_int {i : Int} (h : i.natAbs < 10 ^ 8) : nice (.int i) = true := by
  have e : (10 : Nat) ^ 8 = 100000000 := by decide
  exact (int_fit (i := i) (by omega)).nice
theorem nices_all : ∀ {ds : List PyData}, (∀ d ∈ ds, nice d = true) → nices ds = true
  | [], _ => rfl
  | d :: ds, h => by
    show (nice d && nices ds) = true
    rw [h d (.head _), nices_all fun e m => h e (.tail _ m)]
    rfl
theorem told_shows {h : Hall} {most : Int} {many : Nat} (ok : HOk most many h) (many8 : many ≤ 8) {x : Str} {l : List Arc} (w : WayOk h x l) (len : l.length ≤ 20000) : Shows (toldD h x l) ∧ (toldD h x l).depth ≤ 60 := by
  have nl := ok.nameOk ((ok.hallIn many8).last w.name w.arcs)
  have ps := plain_str nl
  have si := sums_low ok w.arcs len
  obtain ⟨el, ei⟩ := ended_low ok many8 w.arcs len
  have ti : (totalH h l).natAbs < 10 ^ 8 := by
    have := total_low ok w.arcs
    have e : (10 : Nat) ^ 8 = 100000000 := by decide
    omega
  have n2 : nice (.tuple (intsD (sumsH h l))) = true := by
    show nices _ = true
    exact nices_all fun d md => by
      obtain ⟨n, mn, rfl⟩ := List.mem_map.mp md
      exact nice_int (si n mn)
  have n4 : nice (.tuple ((endedH h l).map pieceD)) = true := by
    show nices _ = true
    refine nices_all fun d md => ?_
    obtain ⟨q, mq, rfl⟩ := List.mem_map.mp md
    obtain ⟨a, b⟩ := ei q mq
    show (nice (.str q.1) && (nice (.int q.2) && true)) = true
    rw [(plain_str a).fit.nice, nice_int b]
    rfl
  have nn : nice (toldD h x l) = true := by
    show (nice (.str (lastH h x l)) && (nice (.tuple (intsD (sumsH h l))) && (nice (.int (totalH h l)) && (nice (.tuple ((endedH h l).map pieceD)) && true)))) = true
    rw [ps.fit.nice, n2, nice_int ti, n4]
    rfl
  refine ⟨⟨showable_of _ nn, ?_⟩, ?_⟩
  · have a1 := Nat.le_trans (shown_le _ ps.fit.nice) ps.wgt
    have a2 := ints_shown si
    have a3 := int_shown ti
    have a4 := pieces_shown ei
    have ls := sumsH_len h l
    have b := list_le (PyData.shownAll [.str (lastH h x l), .tuple (intsD (sumsH h l)), .int (totalH h l), .tuple ((endedH h l).map pieceD)])
    have e : sums (PyData.shownAll [.str (lastH h x l), .tuple (intsD (sumsH h l)), .int (totalH h l), .tuple ((endedH h l).map pieceD)]) = (PyData.str (lastH h x l)).shown.length + 2 + ((PyData.tuple (intsD (sumsH h l))).shown.length + 2 + ((PyData.int (totalH h l)).shown.length + 2 + ((PyData.tuple ((endedH h l).map pieceD)).shown.length + 2 + 0))) := by
      rw [shownAll_map]
      show sums [(PyData.str _).shown, (PyData.tuple _).shown, (PyData.int _).shown, (PyData.tuple _).shown] = _
      rw [sums_cons, sums_cons, sums_cons, sums_cons]
      rfl
    rw [e] at b
    have sl : sizeLine = 16777216 := by rw [sizeLine_eq]
    have go : (toldD h x l).shown.length = (listText (PyData.shownAll [.str (lastH h x l), .tuple (intsD (sumsH h l)), .int (totalH h l), .tuple ((endedH h l).map pieceD)])).length := by
      unfold toldD
      simp only [PyData.shown]
    rw [go, sl]
    omega
  · have d2 : PyData.depthAll (intsD (sumsH h l)) ≤ 0 := depthAll_le fun d md => by
      obtain ⟨n, mn, rfl⟩ := List.mem_map.mp md
      exact Nat.le_refl _
    have d4 : PyData.depthAll ((endedH h l).map pieceD) ≤ 1 := depthAll_le fun d md => by
      obtain ⟨q, mq, rfl⟩ := List.mem_map.mp md
      exact Nat.le_refl _
    show max 0 (max (PyData.depthAll (intsD (sumsH h l)) + 1) (max 0 (max (PyData.depthAll ((endedH h l).map pieceD) + 1) 0))) + 1 ≤ 60
    omega
end Cm

namespace Cm
open PySem PySem.Spec PyProof.Rows L2 Vd Pd
/-! C20: the law of ways -/
def V__law_ended14 : WF := fun as P => ∃ (h : Hall) (x : Str) (l : List Arc), as = [.dat (hallD h), .dat (wayD x l)] ∧ HallIn h ∧ l.length ≤ 500000 ∧ WayOk h x l ∧ P (.d (.list ((endedH h l).map pieceD)) .fr)
theorem wgt_two : ∀ d : PyData, 2 ≤ Vd.wgt d
  | .none => by decide
  | .bool _ => by show 2 ≤ 5; decide
  | .int _ => by show 2 ≤ 1921; decide
  | .str x => by show 2 ≤ 10 * x.length + 2; omega
  | .list xs => by show 2 ≤ wgts xs + 2; omega
  | .tuple xs => by show 2 ≤ wgts xs + 4; omega
  | .dict xs => by show 2 ≤ wgtk xs + 2; omega
theorem wgts_ge {k : Nat} : ∀ {ds : List PyData}, (∀ d ∈ ds, k ≤ Vd.wgt d) → ds.length * (k + 2) ≤ wgts ds
  | [], _ => Nat.le_of_eq (Nat.zero_mul _)
  | d :: ds, h => by
    have a := h d (.head _)
    have b := wgts_ge fun e m => h e (.tail _ m)
    rw [List.length_cons, Nat.add_mul]
    show _ ≤ Vd.wgt d + 2 + wgts ds
    omega
theorem HOk.wayIn {most : Int} {many : Nat} {h : Hall} (ok : HOk most many h) (many8 : many ≤ 8) {W D : Nat} {d : PyData} (f : Fit W D d) (hw : W ≤ 1000000) : WayIn h d := by
  have hi := ok.hallIn many8
  refine ⟨hi.few, names_valid ok, hi.lay, hi.bs, f.txt, fun x ds e => ?_⟩
  subst e
  have a := wgts_ge (k := 2) (ds := ds) fun d _ => wgt_two d
  have b := f.wgt
  have c : Vd.wgt (.tuple [x, .tuple ds]) = Vd.wgt x + 2 + (wgts ds + 4 + 2 + 0) + 4 := rfl
  omega
theorem way_short {W D : Nat} {x : Str} {l : List Arc} (f : Fit W D (wayD x l)) (hw : W ≤ 1000000) : l.length ≤ 20000 := by
  have a := wgts_ge (k := 52) (ds := l.map arcD) fun d md => by
    obtain ⟨a, _, rfl⟩ := List.mem_map.mp md
    cases a with
    | next y => show 52 ≤ 42 + 2 + (10 * y.length + 2 + 2 + 0) + 4; omega
    | down j => show 52 ≤ 42 + 2 + (1921 + 2 + 0) + 4; decide
    | up j => show 52 ≤ 22 + 2 + (1921 + 2 + 0) + 4; decide
  rw [List.length_map] at a
  have b := f.wgt
  have c : Vd.wgt (wayD x l) = Vd.wgt (.str x) + 2 + (wgts (l.map arcD) + 4 + 2 + 0) + 4 := rfl
  omega
/-! law -/
abbrev N_law14 : List Str := ["script", "bag", "turn", "hall", "again", "way", "thing", "said", "due", "places", "told"]
def ws_law14 : DS := (dSeq (dFor (dRng1 (dCons (dC (.int 4)) dNil)) (fun r ρ P => asgD 2 r ρ P)
  (dSeq (dSetD 3 (dOwn 1 V__law_any_hall (dCons (dVar 1) dNil)))
  (dFor (dRng1 (dCons (dC (.int 4)) dNil)) (fun r ρ P => asgD 4 r ρ P)
  (dSeq (dSetD 5 (dOwn 2 V__law_some (dCons (dVar 1) (dCons (dLst (dCons (dOwn 3 V__law_way (dCons (dVar 1) (dCons (dVar 3) (dCons (dC (.int 6)) dNil)))) (dCons (dOwn 3 V__law_walk (dCons (dVar 1) (dCons (dVar 3) (dCons (dC (.int 5)) dNil)))) dNil))) dNil))))
  (dSeq (dSetD 6 (dIfE (dTest (dOp wLt (dVar 4) (dC (.int 2)))) (dVar 5) (dOwn 3 V__law_near_way (dCons (dVar 1) (dCons (dVar 3) (dCons (dVar 5) dNil))))))
  (dSeq (dSetD 7 (dCall wRepr (dCons (dLst (dCons (dVar 3) (dCons (dVar 6) dNil))) dNil)))
  (dSeq (dSetD 8 (dLst (dCons (dOwn 2 V__law_is_way (dCons (dVar 3) (dCons (dVar 6) dNil))) (dCons (dOwn 2 V__law_is_walk (dCons (dVar 3) (dCons (dVar 6) dNil))) dNil))))
  (dSeq (dIf (dOr (dNot (dTru (dOwn 2 V__law_alike (dCons (dLst (dCons (dOwn 2 V_is_way (dCons (dVar 3) (dCons (dVar 6) dNil))) (dCons (dOwn 2 V_is_walk (dCons (dVar 3) (dCons (dVar 6) dNil))) dNil))) (dCons (dVar 8) dNil))))) (dTest (dOp wNe (dCall wRepr (dCons (dLst (dCons (dVar 3) (dCons (dVar 6) dNil))) dNil)) (dVar 7)))) (dRet (dC (.bool false))) dNext)
  (dIf (dTru (dOp wIx (dVar 8) (dC (.int 0)))) (dSeq (dSetD 9 (dOwn 2 V__law_indexes (dCons (dVar 3) (dCons (dVar 6) dNil))))
  (dSeq (dSetD 10 (dLst (dCons (dOwn 2 V_end_of_way (dCons (dVar 3) (dCons (dVar 6) dNil))) (dCons (dOwn 2 V_indexes (dCons (dVar 3) (dCons (dVar 6) dNil))) (dCons (dOwn 2 V_index_of (dCons (dVar 3) (dCons (dVar 6) dNil))) (dCons (dOwn 2 V_ended (dCons (dVar 3) (dCons (dVar 6) dNil))) dNil))))))
  (dIf (dNot (dTru (dOwn 2 V__law_alike (dCons (dVar 10) (dCons (dLst (dCons (dOp wIx (dOwn 2 V__law_met (dCons (dVar 3) (dCons (dVar 6) dNil))) (dNeg (dC (.int 1)))) (dCons (dCall wTuple (dCons (dVar 9) dNil)) (dCons (dOp wIx (dVar 9) (dNeg (dC (.int 1)))) (dCons (dCall wTuple (dCons (dOwn 2 V__law_ended14 (dCons (dVar 3) (dCons (dVar 6) dNil))) dNil)) dNil))))) dNil))))) (dRet (dC (.bool false))) dNext))) dNext)))))))))
  (dRet (dC (.bool true))))
abbrev W_law14 : WF := runD N_law14 ws_law14
abbrev law14Rest : DS := (dSeq (dSetD 7 (dCall wRepr (dCons (dLst (dCons (dVar 3) (dCons (dVar 6) dNil))) dNil)))
  (dSeq (dSetD 8 (dLst (dCons (dOwn 2 V__law_is_way (dCons (dVar 3) (dCons (dVar 6) dNil))) (dCons (dOwn 2 V__law_is_walk (dCons (dVar 3) (dCons (dVar 6) dNil))) dNil))))
  (dSeq (dIf (dOr (dNot (dTru (dOwn 2 V__law_alike (dCons (dLst (dCons (dOwn 2 V_is_way (dCons (dVar 3) (dCons (dVar 6) dNil))) (dCons (dOwn 2 V_is_walk (dCons (dVar 3) (dCons (dVar 6) dNil))) dNil))) (dCons (dVar 8) dNil))))) (dTest (dOp wNe (dCall wRepr (dCons (dLst (dCons (dVar 3) (dCons (dVar 6) dNil))) dNil)) (dVar 7)))) (dRet (dC (.bool false))) dNext)
  (dIf (dTru (dOp wIx (dVar 8) (dC (.int 0)))) (dSeq (dSetD 9 (dOwn 2 V__law_indexes (dCons (dVar 3) (dCons (dVar 6) dNil))))
  (dSeq (dSetD 10 (dLst (dCons (dOwn 2 V_end_of_way (dCons (dVar 3) (dCons (dVar 6) dNil))) (dCons (dOwn 2 V_indexes (dCons (dVar 3) (dCons (dVar 6) dNil))) (dCons (dOwn 2 V_index_of (dCons (dVar 3) (dCons (dVar 6) dNil))) (dCons (dOwn 2 V_ended (dCons (dVar 3) (dCons (dVar 6) dNil))) dNil))))))
  (dIf (dNot (dTru (dOwn 2 V__law_alike (dCons (dVar 10) (dCons (dLst (dCons (dOp wIx (dOwn 2 V__law_met (dCons (dVar 3) (dCons (dVar 6) dNil))) (dNeg (dC (.int 1)))) (dCons (dCall wTuple (dCons (dVar 9) dNil)) (dCons (dOp wIx (dVar 9) (dNeg (dC (.int 1)))) (dCons (dCall wTuple (dCons (dOwn 2 V__law_ended14 (dCons (dVar 3) (dCons (dVar 6) dNil))) dNil)) dNil))))) dNil))))) (dRet (dC (.bool false))) dNext))) dNext))))
theorem law14_rest {h : Hall} {d : PyData} {De : DEnds} {s2 s4 s5 s7 s8 s9 s10 : Sl} (ok : HOk 3 3 h) (f : Fit 1000000 50 d)
    (next : ∀ s7 s8 s9 s10, De.nx [.un, .bag, s2, .dat (hallD h), s4, s5, .dat d, s7, s8, s9, s10]) :
    law14Rest De [.un, .bag, s2, .dat (hallD h), s4, s5, .dat d, s7, s8, s9, s10] := by
  have few := ok.few_ (by decide)
  have wi := ok.wayIn (by decide) f (by decide)
  have hi := ok.hallIn (by decide)
  obtain ⟨sh, dp⟩ := pair_shows (hall_plain ok (by decide) (by decide)) f (by decide) (by decide)
  have bsh : ∀ a b : Bool, Shows (.list [.bool a, .bool b]) ∧ (PyData.list [.bool a, .bool b]).depth ≤ 60 := fun a b => (Fit.of (W := 20) (D := 1) (by cases a <;> cases b <;> decide +kernel) : Fit 20 1 (.list [.bool a, .bool b])).shows (by decide) (by decide)
  refine ⟨leb rfl, sh, dp, rfl, rfl, h, d, rfl, wi, rfl, h, d, rfl, wi, leb rfl, rfl, rfl, h, d, rfl, wi, rfl, h, d, rfl, wi, leb rfl, rfl, _, rfl, (bsh _ _).1, (bsh _ _).2, leb rfl, sh, dp, ?_⟩
  refine iteN (fun _ => ?_) (fun no => absurd rfl no)
  refine ⟨_, rfl, ?_⟩
  refine iteB (fun hw => ?_) (fun _ => next _ _ _ _)
  obtain ⟨x, l, rfl, w⟩ := isWay_is hw
  have len := way_short f (by decide)
  have len5 : l.length ≤ 500000 := by omega
  obtain ⟨ts, td⟩ := told_shows ok (by decide) w len
  exact ⟨rfl, h, x, l, rfl, len5, w.arcs, rfl, rfl, h, x, l, rfl, w.arcs, rfl, h, x, l, rfl, len5, w.arcs, rfl, h, x, l, rfl, len5, w.arcs, rfl, h, x, l, rfl, len5, w.arcs, leb rfl, rfl,
    rfl, h, x, l, rfl, hi, len5, w, _, metH_last h x l, _, intsD_last h l, rfl, h, x, l, rfl, hi, len5, w, leb rfl, rfl, toldD h x l, rfl, ts, td, next _ _ _ _⟩
theorem w_law14 : ws_law14 deLaw [.un, .bag, .un, .un, .un, .un, .un, .un, .un, .un, .un] := by
  refine ⟨by decide, by decide, rfl, ?_⟩
  refine for_gen (fun i : Nat => PyData.int (0 + (i : Nat))) (fun done ρ => ∃ s2 s3 s4 s5 s6 s7 s8 s9 s10, ρ = [.un, .bag, s2, s3, s4, s5, s6, s7, s8, s9, s10]) _ _ ⟨_, _, _, _, _, _, _, _, _, rfl⟩ ?_ ?_
  · rintro done i rest _ C e ⟨s2, s3, s4, s5, s6, s7, s8, s9, s10, rfl⟩ next
    refine ⟨rfl, rfl, rfl, fun h ok => ⟨rfl, by decide, by decide, rfl, ?_⟩⟩
    refine for_gen (fun i : Nat => PyData.int (0 + (i : Nat))) (fun done ρ => ∃ s4 s5 s6 s7 s8 s9 s10, ρ = [.un, .bag, .dat (.int (0 + (i : Nat))), .dat (hallD h), s4, s5, s6, s7, s8, s9, s10]) _ _ ⟨_, _, _, _, _, _, _, rfl⟩ ?_ ?_
    · rintro done2 j rest2 _ C2 e2 ⟨s4, s5, s6, s7, s8, s9, s10, rfl⟩ next2
      refine ⟨rfl, rfl, h, 3, 3, 6, rfl, ok, by decide, by decide, fun x1 l1 w1 n1 => ⟨rfl, h, 3, 3, 5, rfl, ok, by decide, by decide, fun x2 l2 w2 n2 => ⟨leb rfl, rfl, _, rfl, by show 0 < 2; decide, by show 2 < 1000000; decide, fun y my => ?_⟩⟩⟩
      have way : ∃ x l, y = wayD x l ∧ WayOk h x l ∧ l.length ≤ 15 := by
        simp only [List.mem_cons, List.not_mem_nil, or_false] at my
        rcases my with e | e <;> subst e
        · exact ⟨x1, l1, rfl, w1, by omega⟩
        · exact ⟨x2, l2, rfl, w2, by omega⟩
      obtain ⟨x, l, rfl, w, len⟩ := way
      have wp := way_plain ok (by decide) w len
      refine ⟨rfl, iteD (fun _ => ⟨rfl, ?_⟩) (fun _ => ⟨rfl, h, 3, 3, x, l, rfl, ok, by decide, w, len, fun d f => ⟨rfl, ?_⟩⟩)⟩
      · exact law14_rest ok (wp.fit.more (by decide) (by decide)) fun _ _ _ _ => next2 _ ⟨_, _, _, _, _, _, _, rfl⟩
      · exact law14_rest ok f fun _ _ _ _ => next2 _ ⟨_, _, _, _, _, _, _, rfl⟩
    · rintro _ ⟨s4, s5, s6, s7, s8, s9, s10, rfl⟩
      exact next _ ⟨_, _, _, _, _, _, _, _, _, rfl⟩
  · rintro _ ⟨s2, s3, s4, s5, s6, s7, s8, s9, s10, rfl⟩
    rfl
end Cm

/-! D23: whether a key is in a dict, as a condition -/
namespace Pd
open PySem PySem.Spec PyProof.Rows L2 Vd
theorem gt_inD {X : Cx} {o i : Expr} {pos : Pos} {td ty : TE} {wd wk : DE} (hu : X.A.units + 64 < cLine) (hi : PD X i ty wk) (ho : PD X o td wd) (hm : behindInMarks .In o = false := by rfl) : PDT X (.Compare i [.In] [o] pos) (tB (tDIn ty td)) (dTest (dInD false wk wd)) := by
  refine ⟨pt_cmp (pc_din (by omega) hi.pe ho.pe) hm, ⟨fun W ρ σ H P Q S h q => ?_⟩⟩
  refine (snd_in hi.snd ho.snd).go W ρ σ H _ _ S h fun r v H1 s1 e1 p1 => ?_
  obtain ⟨b, rfl, p⟩ := boD_is S s1 e1 p1
  exact ⟨b, rfl, q b H1 s1 p⟩
theorem gt_notInD {X : Cx} {o i : Expr} {pos : Pos} {td ty : TE} {wd wk : DE} (hu : X.A.units + 64 < cLine) (hi : PD X i ty wk) (ho : PD X o td wd) (hm : behindInMarks .NotIn o = false := by rfl) : PDT X (.Compare i [.NotIn] [o] pos) (tB (tDNotIn ty td)) (dTest (dInD true wk wd)) := by
  refine ⟨pt_cmp (pc_dnotin (by omega) hi.pe ho.pe) hm, ⟨fun W ρ σ H P Q S h q => ?_⟩⟩
  refine (snd_notin hi.snd ho.snd).go W ρ σ H _ _ S h fun r v H1 s1 e1 p1 => ?_
  obtain ⟨b, rfl, p⟩ := boD_is S s1 e1 p1
  exact ⟨b, rfl, q b H1 s1 p⟩
end Pd

/-! D24: list(zip(a, b, c)), a beginning: `next` of a zip over three while the tuple that it gave out first is still there -/
namespace Pd
open PySem
open Sem (wp)
section
variable {prog : Program} {w : World} {A : Around} {E : Value → Shared → Prop} {s : Shared} {z TI TO i1 i2 i3 T : Addr} {fp1 fp2 fp3 : List Addr} {n1 n2 n3 i : Nat} {P1 P2 P3 : Nat → Value → Prop} {St1 St2 St3 : Nat → Heap → Prop} {f : Bool} {oT : Obj}
theorem zip3_held {Q : Value → Shared → Prop} (S : ZipSep3 z TI TO i1 i2 i3 fp1 fp2 fp3) (D1 : Draws prog w A i1 fp1 n1 P1 St1) (D2 : Draws prog w A i2 fp2 n2 P2 St2) (D3 : Draws prog w A i3 fp3 n3 P3 St3)
    (hz : IsZipHeld s.heap z TI TO T f) (hT : s.heap.get? T = some oT) (hTI : IsTupOf3 s.heap TI (.ref i1) (.ref i2) (.ref i3)) (st1 : St1 i s.heap) (st2 : St2 i s.heap) (st3 : St3 i s.heap) (l1 : i < n1) (l2 : i < n2) (l3 : i < n3)
    (hQ : ∀ x1 x2 x3 h' tk, P1 i x1 → P2 i x2 → P3 i x3 → IsZipHeld h' z TI TO T true → St1 (i + 1) h' → St2 (i + 1) h' → St3 (i + 1) h' → IsTupOf3 h' s.heap.objs.size x1 x2 x3 → h'.objs.size = s.heap.objs.size + 1 →
      (∀ c o, c ≠ z → c ≠ i1 → c ≠ i2 → c ≠ i3 → s.heap.get? c = some o → h'.get? c = some o) → Q (.ref s.heap.objs.size) { s with heap := h', toks := tk }) :
    wpAny (model prog w) A (Builtin.«zip.__next__» ⟨[.ref z], []⟩) (fun fin s' => ∃ v, fin = .done (.ret v) ∧ Q v s') E s := by
  obtain ⟨hp, g, d, tk0, os⟩ := s
  show wpAny _ _ (field (.ref z) 2 >>= _) _ _ _
  refine wpAny_bind (wpAny_field hz rfl (x := .bool false) rfl ?_)
  show wpAny _ _ (field (.ref z) 3 >>= _) _ _ _
  refine wpAny_bind (wpAny_field hz rfl (x := .ref TI) rfl ?_)
  refine wpAny_bind (wpAny_seqItems hTI rfl ?_)
  show wpAny _ _ (Builtin.SmallTypes.ownedTupleIsFree (.ref z) >>= _) _ _ _
  refine wpAny_bind (wpAny_tupleHeld_zip hz hT fun h₀ z0 s0 => ?_)
  simp only [Bool.false_eq_true, if_false]
  refine wpAny_bind ?_
  rw [← Array.forIn_toList]
  simp only [List.forIn_cons, List.forIn_nil]
  refine wpAny_bind (wpAny_bind (wpAny_holding ?_))
  show wpAny _ _ (Builtin.SmallTypes.nextOf (.ref i1) >>= _) _ _ ⟨h₀, g, d, tk0, os⟩
  refine wpAny_bind (D1.item i _ _ _ l1 (D1.over st1 s0 S.zf1) fun x1 p1 tk1 hx1 sn1 e1 => wpAny_pure (wpAny_pure ?_))
  refine wpAny_bind (wpAny_bind (wpAny_holding ?_))
  show wpAny _ _ (Builtin.SmallTypes.nextOf (.ref i2) >>= _) _ _ ⟨p1, g, d, tk1, os⟩
  refine wpAny_bind (D2.item i _ _ _ l2 (D2.over (D2.over st2 s0 S.zf2) e1 S.sep1_2) fun x2 p2 tk2 hx2 sn2 e2 => wpAny_pure (wpAny_pure ?_))
  refine wpAny_bind (wpAny_bind (wpAny_holding ?_))
  show wpAny _ _ (Builtin.SmallTypes.nextOf (.ref i3) >>= _) _ _ ⟨p2, g, d, tk2, os⟩
  refine wpAny_bind (D3.item i _ _ _ l3 (D3.over (D3.over (D3.over st3 s0 S.zf3) e1 S.sep1_3) e2 S.sep2_3) fun x3 p3 tk3 hx3 sn3 e3 => wpAny_pure (wpAny_pure (wpAny_pure ?_)))
  replace s0 : Heap.SameBut z hp h₀ := s0
  replace e1 : Heap.SameBut i1 h₀ p1 := e1
  replace e2 : Heap.SameBut i2 p1 p2 := e2
  replace e3 : Heap.SameBut i3 p2 p3 := e3
  show wpAny _ _ (newTuple [x1, x2, x3] >>= _) _ _ ⟨p3, g, d, tk3, os⟩
  refine wpAny_bind (wpAny_newTuple ?_)
  have sz : p3.objs.size = hp.objs.size := by rw [e3.1, e2.1, e1.1, s0.1]
  have z3 : IsZipHeld p3 z TI TO T true := e3.extBut _ _ S.zi3 (e2.extBut _ _ S.zi2 (e1.extBut _ _ S.zi1 z0))
  have keep : ∀ c o, c ≠ z → c ≠ i1 → c ≠ i2 → c ≠ i3 → hp.get? c = some o → p3.get? c = some o := fun c o c0 c1 c2 c3 e => e3.extBut _ _ c3 (e2.extBut _ _ c2 (e1.extBut _ _ c1 (s0.extBut _ _ c0 e)))
  have j1 : St1 (i + 1) p3 := D1.over (D1.over sn1 e2 S.sep2_1) e3 S.sep3_1
  have j2 : St2 (i + 1) p3 := D2.over sn2 e3 S.sep3_2
  refine wpAny_pure ⟨_, rfl, ?_⟩
  show Q (.ref p3.objs.size) ⟨p3.push { cls := .type "tuple", data := .seq #[x1, x2, x3] }, g, d, tk3, os⟩
  have up : ∀ c o, p3.get? c = some o → (p3.push { cls := .type "tuple", data := .seq #[x1, x2, x3] }).get? c = some o := fun c o e => Heap.get?_push_of_some _ e
  have tp : IsTupOf3 (p3.push { cls := .type "tuple", data := .seq #[x1, x2, x3] }) p3.objs.size x1 x2 x3 := Heap.get?_push_size _ rfl
  have sz4 : (p3.push { cls := .type "tuple", data := .seq #[x1, x2, x3] }).objs.size = p3.objs.size + 1 := Heap.size_push ..
  rw [sz] at tp sz4 ⊢
  exact hQ x1 x2 x3 _ tk3 hx1 hx2 hx3 (up _ _ z3) (D1.frame _ _ _ j1 fun b _ o e => up b o e) (D2.frame _ _ _ j2 fun b _ o e => up b o e) (D3.frame _ _ _ sn3 fun b _ o e => up b o e) tp sz4 fun c o c0 c1 c2 c3 e => up c o (keep c o c0 c1 c2 c3 e)
theorem zip3_held_end {Q : Fin → Shared → Prop} (S : ZipSep3 z TI TO i1 i2 i3 fp1 fp2 fp3) (D1 : Draws prog w A i1 fp1 n1 P1 St1) (D2 : Draws prog w A i2 fp2 n2 P2 St2) (D3 : Draws prog w A i3 fp3 n3 P3 St3)
    (hz : IsZipHeld s.heap z TI TO T f) (hT : s.heap.get? T = some oT) (hTI : IsTupOf3 s.heap TI (.ref i1) (.ref i2) (.ref i3)) (st1 : St1 i s.heap) (st2 : St2 i s.heap) (st3 : St3 i s.heap) (l1 : i ≤ n1) (l2 : i ≤ n2) (l3 : i ≤ n3) (hend : i = n1 ∨ i = n2 ∨ i = n3)
    (hE : ∀ h' tk e, (∀ c o, c ≠ z → c ≠ i1 → c ≠ i2 → c ≠ i3 → s.heap.get? c = some o → h'.get? c = some o) → (∃ o, h'.get? e = some o ∧ o.cls = .type "StopIteration") → E (.ref e) { s with heap := h', toks := tk }) :
    wpAny (model prog w) A (Builtin.«zip.__next__» ⟨[.ref z], []⟩) Q E s := by
  obtain ⟨hp, g, d, tk0, os⟩ := s
  show wpAny _ _ (field (.ref z) 2 >>= _) _ _ _
  refine wpAny_bind (wpAny_field hz rfl (x := .bool false) rfl ?_)
  show wpAny _ _ (field (.ref z) 3 >>= _) _ _ _
  refine wpAny_bind (wpAny_field hz rfl (x := .ref TI) rfl ?_)
  refine wpAny_bind (wpAny_seqItems hTI rfl ?_)
  show wpAny _ _ (Builtin.SmallTypes.ownedTupleIsFree (.ref z) >>= _) _ _ _
  refine wpAny_bind (wpAny_tupleHeld_zip hz hT fun h₀ z0 s0 => ?_)
  replace s0 : Heap.SameBut z hp h₀ := s0
  simp only [Bool.false_eq_true, if_false]
  refine wpAny_bind ?_
  rw [← Array.forIn_toList]
  simp only [List.forIn_cons, List.forIn_nil]
  refine wpAny_bind (wpAny_bind (wpAny_holding ?_))
  show wpAny _ _ (Builtin.SmallTypes.nextOf (.ref i1) >>= _) _ _ ⟨h₀, g, d, tk0, os⟩
  by_cases c1 : i < n1
  case neg =>
    obtain rfl : i = n1 := Nat.le_antisymm l1 (Nat.le_of_not_lt c1)
    exact wpAny_bind (D1.done _ _ _ (D1.over st1 s0 S.zf1) fun h' e x1 st => hE h' _ e (fun c o c0 c1 c2 c3 q => x1 _ _ c1 (s0.extBut _ _ c0 q)) st)
  refine wpAny_bind (D1.item i _ _ _ c1 (D1.over st1 s0 S.zf1) fun x1 p1 tk1 hx1 sn1 e1 => wpAny_pure (wpAny_pure ?_))
  replace e1 : Heap.SameBut i1 h₀ p1 := e1
  refine wpAny_bind (wpAny_bind (wpAny_holding ?_))
  show wpAny _ _ (Builtin.SmallTypes.nextOf (.ref i2) >>= _) _ _ ⟨p1, g, d, tk1, os⟩
  have st2' : St2 i p1 := D2.over (D2.over st2 s0 S.zf2) e1 S.sep1_2
  by_cases c2 : i < n2
  case neg =>
    obtain rfl : i = n2 := Nat.le_antisymm l2 (Nat.le_of_not_lt c2)
    exact wpAny_bind (D2.done _ _ _ st2' fun h' e x2 st => hE h' _ e (fun c o c0 c1 c2 c3 q => x2 _ _ c2 (e1.extBut _ _ c1 (s0.extBut _ _ c0 q))) st)
  refine wpAny_bind (D2.item i _ _ _ c2 st2' fun x2 p2 tk2 hx2 sn2 e2 => wpAny_pure (wpAny_pure ?_))
  replace e2 : Heap.SameBut i2 p1 p2 := e2
  refine wpAny_bind (wpAny_bind (wpAny_holding ?_))
  show wpAny _ _ (Builtin.SmallTypes.nextOf (.ref i3) >>= _) _ _ ⟨p2, g, d, tk2, os⟩
  have st3' : St3 i p2 := D3.over (D3.over (D3.over st3 s0 S.zf3) e1 S.sep1_3) e2 S.sep2_3
  obtain rfl : i = n3 := by omega
  exact wpAny_bind (D3.done _ _ _ st3' fun h' e x3 st => hE h' _ e (fun c o c0 c1 c2 c3 q => x3 _ _ c3 (e2.extBut _ _ c2 (e1.extBut _ _ c1 (s0.extBut _ _ c0 q)))) st)
theorem next_zip3_held {Q : Option Value → Shared → Prop} (S : ZipSep3 z TI TO i1 i2 i3 fp1 fp2 fp3) (D1 : Draws prog w A.in1 i1 fp1 n1 P1 St1) (D2 : Draws prog w A.in1 i2 fp2 n2 P2 St2) (D3 : Draws prog w A.in1 i3 fp3 n3 P3 St3)
    (hz : IsZipHeld s.heap z TI TO T f) (hT : s.heap.get? T = some oT) (hTI : IsTupOf3 s.heap TI (.ref i1) (.ref i2) (.ref i3)) (st1 : St1 i s.heap) (st2 : St2 i s.heap) (st3 : St3 i s.heap) (l1 : i < n1) (l2 : i < n2) (l3 : i < n3)
    (hQ : ∀ x1 x2 x3 h' tk, P1 i x1 → P2 i x2 → P3 i x3 → IsZipHeld h' z TI TO T true → St1 (i + 1) h' → St2 (i + 1) h' → St3 (i + 1) h' → IsTupOf3 h' s.heap.objs.size x1 x2 x3 → h'.objs.size = s.heap.objs.size + 1 →
      (∀ c o, c ≠ z → c ≠ i1 → c ≠ i2 → c ≠ i3 → s.heap.get? c = some o → h'.get? c = some o) → Q (some (.ref s.heap.objs.size)) { s with heap := h', toks := tk }) : wpAny (model prog w) A (pyNext (.ref z)) Q E s := by
  have ty : s.TypeIs (.ref z) "zip" := ⟨_, hz, rfl⟩
  unfold pyNext
  exact wpAny_bind (wpAny_attempt (wpAny_callSpecial?_slot (name := Str.ofString "__next__") ty F.slot_zip_next
    (wpAny_call_entry F.slot_zip_next ty F.entry_zip_next
      (zip3_held S D1 D2 D3 hz hT hTI st1 st2 st3 l1 l2 l3 fun x1 x2 x3 h' tk y1 y2 y3 a b c d e k m => wpAny_pure (hQ x1 x2 x3 h' tk y1 y2 y3 a b c d e k m)) (F.args_zip_next_1 _))))
theorem next_zip3_held_end {Q : Option Value → Shared → Prop} (S : ZipSep3 z TI TO i1 i2 i3 fp1 fp2 fp3) (D1 : Draws prog w A.in1 i1 fp1 n1 P1 St1) (D2 : Draws prog w A.in1 i2 fp2 n2 P2 St2) (D3 : Draws prog w A.in1 i3 fp3 n3 P3 St3)
    (hz : IsZipHeld s.heap z TI TO T f) (hT : s.heap.get? T = some oT) (hTI : IsTupOf3 s.heap TI (.ref i1) (.ref i2) (.ref i3)) (st1 : St1 i s.heap) (st2 : St2 i s.heap) (st3 : St3 i s.heap) (l1 : i ≤ n1) (l2 : i ≤ n2) (l3 : i ≤ n3) (hend : i = n1 ∨ i = n2 ∨ i = n3)
    (hQ : ∀ h' tk, (∀ c o, c ≠ z → c ≠ i1 → c ≠ i2 → c ≠ i3 → s.heap.get? c = some o → h'.get? c = some o) → Q none { s with heap := h', toks := tk }) : wpAny (model prog w) A (pyNext (.ref z)) Q E s := by
  have ty : s.TypeIs (.ref z) "zip" := ⟨_, hz, rfl⟩
  unfold pyNext
  refine wpAny_bind (wpAny_attempt (wpAny_callSpecial?_slot (name := Str.ofString "__next__") ty F.slot_zip_next
    (wpAny_call_entry F.slot_zip_next ty F.entry_zip_next (zip3_held_end S D1 D2 D3 hz hT hTI st1 st2 st3 l1 l2 l3 hend fun h' tk e hk st => ?_) (F.args_zip_next_1 _))))
  obtain ⟨o, ho, hc⟩ := st
  refine wpAny_bind (wpAny_isInstance (T := "StopIteration") (b := true) ⟨o, ho, hc⟩ isSubtype_stop ?_)
  exact wpAny_pure (hQ _ _ hk)
end
end Pd

/-! D25: list(..) of an iterator whose items are told of together with the heap: the loop -/
namespace Pd
open PySem
open Sem (wp)
section
variable {prog : Program} {w : World} {A : Around} {R : Result → Shared → Prop}
abbrev LstAt (s : Shared) (S : Addr) (acc : Array Value) (c : Nat) : Prop := s.heap.get? S = some { cls := .type "list", dict := none, data := .seq acc c, slots := #[] }
theorem extend_loop {I S : Addr} {res : Value} {n : Nat} (J : Nat → Array Value → Shared → Prop) (Fi : Array Value → Shared → Prop) (hn : n ≤ sizeLine)
    (item : ∀ i acc c s (Q : Option Value → Shared → Prop) (E : Value → Shared → Prop), i < n → J i acc s → LstAt s S acc c →
      (∀ v s' , LstAt s' S acc c → J (i + 1) (acc.push v) { s' with heap := s'.heap.update S (Obj.mapSeq (·.push v)) } → Q (some v) s') → wpAny (model prog w) A.in1 (pyNext (.ref I)) Q E s)
    (done : ∀ acc c s (Q : Option Value → Shared → Prop) (E : Value → Shared → Prop), J n acc s → LstAt s S acc c → (∀ s', LstAt s' S acc c → Fi acc s' → Q none s') → wpAny (model prog w) A.in1 (pyNext (.ref I)) Q E s) :
    ∀ (k i : Nat) (s : Shared) (acc : Array Value) (c : Nat), n - i = k → i ≤ n → J i acc s → acc.size = i → LstAt s S acc c →
    (∀ s' acc' c', Fi acc' s' → acc'.size = n → LstAt s' S acc' c' → R (.ok (.ret res)) s') →
    codeAny (model prog w) A (.builtin "list.extend.loop" ⟨[.ref S, .ref I, res], []⟩) R s := by
  intro k
  induction k with
  | zero =>
    intro i s acc c hk hi j sz hS hR
    obtain rfl : i = n := by omega
    refine codeAny_builtin F.entry_extend_loop ?_
    rw [Around.under_plainId F.plain_extend_loop _]
    show wpAny _ A.in1 (pyNext (.ref I) >>= _) _ _ s
    exact wpAny_bind (done acc c s _ _ j hS fun s' h f => wpAny_pure (hR s' acc c f sz h))
  | succ k ih =>
    intro i s acc c hk hi j sz hS hR
    refine codeAny_builtin F.entry_extend_loop ?_
    rw [Around.under_plainId F.plain_extend_loop _]
    show wpAny _ A.in1 (pyNext (.ref I) >>= _) _ _ s
    refine wpAny_bind (item i acc c s _ _ (by omega) j hS fun v s' h j' => ?_)
    show wpAny _ A.in1 (updateSeq S (·.push v) >>= _) _ _ _
    refine wpAny_bind ?_
    refine wpAny_updateSeq h rfl (wpAny_pure ⟨plainId_quiet F.plain_extend_loop _, ih (i + 1) _ (acc.push v) _ (by omega) (by omega) j' (by rw [Array.size_push, sz]) (Heap.get?_update_self _ h rfl) hR⟩) (by omega) (by show (acc.push v).size ≤ sizeLine + 1; rw [Array.size_push]; omega)
end
end Pd

/-! D26: list(z) of a zip, whatever it walks over -/
namespace Pd
open PySem
open Sem (wp)
theorem zip_no_len : typeLookup (.type "zip") "__len__" = pure none := am_miss_of_fast (by decide +kernel)
theorem zip_no_hint : typeLookup (.type "zip") "__length_hint__" = pure none := am_miss_of_fast (by decide +kernel)
section
variable {prog : Program} {w : World} {A : Around} {R : Result → Shared → Prop} {s : Shared} {I S : Addr} {n : Nat}
theorem zip_extend {res : Value} (J : Nat → Array Value → Shared → Prop) (Fi : Array Value → Shared → Prop) (hn : n ≤ sizeLine) (hSI : S ≠ I)
    (item : ∀ i acc c s (Q : Option Value → Shared → Prop) (E : Value → Shared → Prop), i < n → J i acc s → LstAt s S acc c →
      (∀ v s' , LstAt s' S acc c → J (i + 1) (acc.push v) { s' with heap := s'.heap.update S (Obj.mapSeq (·.push v)) } → Q (some v) s') → wpAny (model prog w) A.in1 (pyNext (.ref I)) Q E s)
    (done : ∀ acc c s (Q : Option Value → Shared → Prop) (E : Value → Shared → Prop), J n acc s → LstAt s S acc c → (∀ s', LstAt s' S acc c → Fi acc s' → Q none s') → wpAny (model prog w) A.in1 (pyNext (.ref I)) Q E s)
    (ty : ∀ s, J 0 #[] s → s.TypeIs (.ref I) "zip") (self : ∀ s (Q : Value → Shared → Prop) (E : Value → Shared → Prop), J 0 #[] s → Q (.ref I) s → wpAny (model prog w) A.in1 (pyIter (.ref I)) Q E s)
    (frame : ∀ (s : Shared) h', J 0 #[] s → (∀ b o, b ≠ S → s.heap.get? b = some o → h'.get? b = some o) → h'.objs.size = s.heap.objs.size → J 0 #[] { s with heap := h' })
    (j : J 0 #[] s) (c₀ : Nat) (hS : s.heap.get? S = some { cls := .type "list", data := .seq #[] c₀ })
    (hR : ∀ s' acc c, Fi acc s' → acc.size = n → LstAt s' S acc c → R (.ok (.ret res)) s') :
    wpAny (model prog w) A.in1 (Builtin.List.listExtendWith (.ref S) (.ref I) res)
      (fun fin s' => match fin with | .done f => R (.ok f) s' | .again c' => c'.quiet = true ∧ codeAny (model prog w) A c' R s') (fun e s' => R (.error e) s') s := by
  unfold Builtin.List.listExtendWith
  refine wpAny_bind (wpAny_typeOf (ty _ j) ?_)
  have h1 : Builtin.List.listSameRef (.ref S) (.ref I) = false := by simp [Builtin.List.listSameRef, hSI]
  have h2 : (Value.type "zip" == Value.type "list") = false := by decide
  have h3 : (Value.type "zip" == Value.type "tuple") = false := by decide
  simp only [h1, h2, h3, Bool.or_false, Bool.false_eq_true, if_false]
  refine wpAny_bind (self _ _ _ j ?_)
  refine wpAny_bind (wpAny_holding ?_)
  unfold Builtin.List.listLengthHint
  refine wpAny_bind (wpAny_specialOf (ty _ j) zip_no_len ?_)
  show wpAny _ A.in1 (specialOf (Value.ref I) (Str.ofString "__length_hint__") >>= _) _ _ _
  refine wpAny_bind (wpAny_specialOf (ty _ j) zip_no_hint ?_)
  refine wpAny_pure ?_
  show wpAny _ A.in1 (rule "list.extend.makes-room" >>= fun _ => Builtin.List.listTouch (.ref S) >>= fun _ =>
    again (.builtin "list.extend.loop" ⟨[.ref S, .ref I, res], []⟩)) _ _ _
  refine wpAny_bind (wpAny_rule ?_)
  refine wpAny_bind ?_
  show wpAny _ A.in1 (updateSeq S (·.push .none) >>= fun _ => updateSeq S (·.pop)) _ _ _
  refine wpAny_bind (wpAny_updateSeq hS rfl ?_)
  have hS₂ := Heap.get?_update_self (Obj.mapSeq (·.push Value.none)) hS rfl
  refine wpAny_updateSeq (hz := by seq_fits) hS₂ rfl ?_
  have hS₃ := Heap.get?_update_self (Obj.mapSeq (·.pop)) hS₂ rfl
  refine wpAny_pure ⟨plainId_quiet F.plain_extend_loop _, extend_loop J Fi hn item done n 0 _ _ _ rfl (Nat.zero_le _) (frame s ((s.heap.update S (Obj.mapSeq (·.push .none))).update S (Obj.mapSeq (·.pop))) j (fun b o hb e => (Heap.get?_update_other _ _ (Ne.symm hb)).trans ((Heap.get?_update_other _ _ (Ne.symm hb)).trans e)) (by simp [Heap.size_update])) rfl hS₃ hR⟩
theorem zip_list_init (J : Nat → Array Value → Shared → Prop) (Fi : Array Value → Shared → Prop) (hn : n ≤ sizeLine) (hSI : S ≠ I)
    (item : ∀ i acc c s (Q : Option Value → Shared → Prop) (E : Value → Shared → Prop), i < n → J i acc s → LstAt s S acc c →
      (∀ v s' , LstAt s' S acc c → J (i + 1) (acc.push v) { s' with heap := s'.heap.update S (Obj.mapSeq (·.push v)) } → Q (some v) s') → wpAny (model prog w) A.in1 (pyNext (.ref I)) Q E s)
    (done : ∀ acc c s (Q : Option Value → Shared → Prop) (E : Value → Shared → Prop), J n acc s → LstAt s S acc c → (∀ s', LstAt s' S acc c → Fi acc s' → Q none s') → wpAny (model prog w) A.in1 (pyNext (.ref I)) Q E s)
    (ty : ∀ s, J 0 #[] s → s.TypeIs (.ref I) "zip") (self : ∀ s (Q : Value → Shared → Prop) (E : Value → Shared → Prop), J 0 #[] s → Q (.ref I) s → wpAny (model prog w) A.in1 (pyIter (.ref I)) Q E s)
    (frame : ∀ (s : Shared) h', J 0 #[] s → (∀ b o, b ≠ S → s.heap.get? b = some o → h'.get? b = some o) → h'.objs.size = s.heap.objs.size → J 0 #[] { s with heap := h' })
    (j : J 0 #[] s) (hS : s.heap.get? S = some { cls := .type "list", data := .seq #[] })
    (hR : ∀ s' acc c, Fi acc s' → acc.size = n → LstAt s' S acc c → R (.ok (.ret .none)) s') :
    wpAny (model prog w) A.in1 (Builtin.«list.__init__» ⟨[.ref S, .ref I], []⟩)
      (fun fin s' => match fin with | .done f => R (.ok f) s' | .again c' => c'.quiet = true ∧ codeAny (model prog w) A c' R s') (fun e s' => R (.error e) s') s := by
  show wpAny _ A.in1 (do let old ← Builtin.List.listItems (.ref S); Builtin.List.listUpdate (.ref S) (fun _ => #[]); letGo old.toList.reverse; Builtin.List.listExtendWith (.ref S) (.ref I) .none) _ _ s
  refine wpAny_bind ?_
  unfold Builtin.List.listItems
  refine wpAny_bind (wpAny_seqItems hS rfl (wpAny_pure ?_))
  show wpAny _ A.in1 (updateSeq S (fun _ => #[]) >>= fun _ => letGo (#[] : Array Value).toList.reverse >>= fun _ => Builtin.List.listExtendWith (.ref S) (.ref I) .none) _ _ s
  refine wpAny_bind (wpAny_updateSeq hS rfl ?_)
  have hS₂ := Heap.get?_update_self (Obj.mapSeq (fun _ => (#[] : Array Value))) hS rfl
  refine wpAny_bind (wpAny_letGo ?_)
  exact zip_extend J Fi hn hSI item done ty self frame (frame s (s.heap.update S (Obj.mapSeq (fun _ => (#[] : Array Value)))) j (fun b o hb e => (Heap.get?_update_other _ _ (Ne.symm hb)).trans e) (by simp [Heap.size_update])) _ hS₂ hR
end
section
variable {prog : Program} {w : World} {A : Around} {E : Value → Shared → Prop} {s : Shared} {I : Addr} {n : Nat}
theorem call_list_zip {Q : Value → Shared → Prop} (J : Nat → Array Value → Shared → Prop) (Fi : Array Value → Shared → Prop) (hn : n ≤ sizeLine) (hI : I < s.heap.objs.size)
    (item : ∀ i acc c s₁ (Q : Option Value → Shared → Prop) (E : Value → Shared → Prop), i < n → J i acc s₁ → LstAt s₁ s.heap.objs.size acc c →
      (∀ v s' , LstAt s' s.heap.objs.size acc c → J (i + 1) (acc.push v) { s' with heap := s'.heap.update s.heap.objs.size (Obj.mapSeq (·.push v)) } → Q (some v) s') → wpAny (model prog w) A.in1.in1 (pyNext (.ref I)) Q E s₁)
    (done : ∀ acc c s₁ (Q : Option Value → Shared → Prop) (E : Value → Shared → Prop), J n acc s₁ → LstAt s₁ s.heap.objs.size acc c → (∀ s', LstAt s' s.heap.objs.size acc c → Fi acc s' → Q none s') → wpAny (model prog w) A.in1.in1 (pyNext (.ref I)) Q E s₁)
    (ty : ∀ s, J 0 #[] s → s.TypeIs (.ref I) "zip") (self : ∀ s (Q : Value → Shared → Prop) (E : Value → Shared → Prop), J 0 #[] s → Q (.ref I) s → wpAny (model prog w) A.in1.in1 (pyIter (.ref I)) Q E s)
    (frame : ∀ (s₁ : Shared) h', J 0 #[] s₁ → (∀ b o, b ≠ s.heap.objs.size → s₁.heap.get? b = some o → h'.get? b = some o) → h'.objs.size = s₁.heap.objs.size → J 0 #[] { s₁ with heap := h' })
    (j : J 0 #[] { s with heap := s.heap.push { cls := .type "list", data := .seq #[] } })
    (hQ : ∀ s' acc c, Fi acc s' → acc.size = n → LstAt s' s.heap.objs.size acc c → Q (.ref s.heap.objs.size) s') :
    wpAny (model prog w) A (call (.type "list") [.ref I]) Q E s := by
  refine callType_codes (Q₁ := fun obj s₁ => obj = .ref s.heap.objs.size ∧ s₁ = { s with heap := s.heap.push { cls := .type "list", data := .seq #[] } }) F.called_list (F.typeCall_list_1 _) F.entry_list_init
    (code_list_new _ ⟨rfl, rfl⟩) fun obj s₁ h₁ => ?_
  obtain ⟨rfl, rfl⟩ := h₁
  have hS : (s.heap.push { cls := .type "list", data := .seq #[] }).get? s.heap.objs.size = some { cls := .type "list", data := .seq #[] } := Heap.get?_push_size _ rfl
  exact ⟨⟨_, hS, rfl⟩, F.args_list_init_2 _ _, zip_list_init J Fi hn (Nat.ne_of_gt hI) item done ty self frame j hS fun s' acc c f z h => ⟨rfl, hQ s' acc c f z h⟩⟩
end
end Pd

/-! D27: list(z) of a zip over three -/
namespace Pd
open PySem
open Sem (wp)
section
variable {prog : Program} {w : World} {A : Around} {E : Value → Shared → Prop} {s : Shared} {z TI TO i1 i2 i3 : Addr} {fp1 fp2 fp3 : List Addr} {n1 n2 n3 : Nat} {P1 P2 P3 : Nat → Value → Prop} {St1 St2 St3 : Nat → Heap → Prop} {a1 a2 a3 : Value}
def Threes (P1 P2 P3 : Nat → Value → Prop) (N : Addr) (acc : Array Value) (h : Heap) : Prop := ∀ k v, acc[k]? = some v → ∃ t x y u, v = .ref t ∧ N < t ∧ P1 k x ∧ P2 k y ∧ P3 k u ∧ IsTupOf3 h t x y u
theorem call_list_zip3 {Q : Value → Shared → Prop} (Z : ZipSep3 z TI TO i1 i2 i3 fp1 fp2 fp3) (D1 : Draws prog w A.in1.in1.in1 i1 fp1 n1 P1 St1) (D2 : Draws prog w A.in1.in1.in1 i2 fp2 n2 P2 St2) (D3 : Draws prog w A.in1.in1.in1 i3 fp3 n3 P3 St3)
    (hn : min (min n1 n2) n3 ≤ sizeLine) (b1 : ∀ b ∈ fp1, b < s.heap.objs.size) (b2 : ∀ b ∈ fp2, b < s.heap.objs.size) (b3 : ∀ b ∈ fp3, b < s.heap.objs.size)
    (hz : IsZip s.heap z TI TO .none) (hTI : IsTupOf3 s.heap TI (.ref i1) (.ref i2) (.ref i3)) (hTO : IsTupOf3 s.heap TO a1 a2 a3) (st1 : St1 0 s.heap) (st2 : St2 0 s.heap) (st3 : St3 0 s.heap) (TI3 : TI ≠ i3)
    (hQ : ∀ s' acc c, Threes P1 P2 P3 s.heap.objs.size acc s'.heap → s'.gens = s.gens → s'.drawn = s.drawn → s'.os = s.os →
      (∀ b o, b ≠ z → b ≠ TO → b ≠ i1 → b ≠ i2 → b ≠ i3 → s.heap.get? b = some o → s'.heap.get? b = some o) → acc.size = min (min n1 n2) n3 → LstAt s' s.heap.objs.size acc c → Q (.ref s.heap.objs.size) s') :
    wpAny (model prog w) A (call (.type "list") [.ref z]) Q E s := by
  have lz := Heap.lt_size hz
  have lI := Heap.lt_size hTI
  have lO := Heap.lt_size hTO
  have l1 := b1 _ Z.mem1
  have l2 := b2 _ Z.mem2
  have l3 := b3 _ Z.mem3
  generalize eN : s.heap.objs.size = N at *
  let K : Shared → Prop := fun s' => s'.gens = s.gens ∧ s'.drawn = s.drawn ∧ s'.os = s.os ∧ ∀ b o, b ≠ z → b ≠ TO → b ≠ i1 → b ≠ i2 → b ≠ i3 → s.heap.get? b = some o → s'.heap.get? b = some o
  let J : Nat → Array Value → Shared → Prop := fun i acc s' => Threes P1 P2 P3 N acc s'.heap ∧ IsTupOf3 s'.heap TI (.ref i1) (.ref i2) (.ref i3) ∧ St1 i s'.heap ∧ St2 i s'.heap ∧ St3 i s'.heap ∧ K s' ∧ acc.size = i ∧
    ((i = 0 ∧ IsZip s'.heap z TI TO .none ∧ IsTupOf3 s'.heap TO a1 a2 a3) ∨ (0 < i ∧ ∃ T oT f, N < T ∧ IsZipHeld s'.heap z TI TO T f ∧ s'.heap.get? T = some oT))
  have ne : ∀ {t x : Addr}, N < t → x < N → t ≠ x := fun a b => Nat.ne_of_gt (Nat.lt_trans b a)
  have main := call_list_zip (prog := prog) (w := w) (A := A) (E := E) (s := s) (I := z) (n := min (min n1 n2) n3) (Q := Q) J (fun acc s' => Threes P1 P2 P3 N acc s'.heap ∧ K s') hn (eN ▸ lz)
  rw [eN] at main
  have small : ∀ {s₁ : Shared} {acc : Array Value} {c : Nat}, LstAt s₁ N acc c → N < s₁.heap.objs.size := fun h => Heap.lt_size h
  refine main ?_ ?_ ?_ ?_ ?_ ?_ ?_
  · rintro i acc c s₁ Q' E' lt ⟨tu, tI, j1, j2, j3, kp, sz, zz⟩ hS next
    have NS := small hS
    have fin : ∀ h' tk x1 x2 x3, P1 i x1 → P2 i x2 → P3 i x3 → (∃ T oT f, N < T ∧ IsZipHeld h' z TI TO T f ∧ h'.get? T = some oT) → St1 (i + 1) h' → St2 (i + 1) h' → St3 (i + 1) h' → IsTupOf3 h' s₁.heap.objs.size x1 x2 x3 →
        (∀ c o, c ≠ z → c ≠ TO → c ≠ i1 → c ≠ i2 → c ≠ i3 → s₁.heap.get? c = some o → h'.get? c = some o) → Q' (some (.ref s₁.heap.objs.size)) { s₁ with heap := h', toks := tk } := by
      rintro h' tk x1 x2 x3 y1 y2 y3 ⟨T, oT, f, lT, zh, eT⟩ k1 k2 k3 tp keep
      have up : ∀ {b : Addr} {o : Obj}, b ≠ N → h'.get? b = some o → (h'.update N (Obj.mapSeq (·.push (.ref s₁.heap.objs.size)))).get? b = some o := fun hb e => (Heap.get?_update_other _ _ (Ne.symm hb)).trans e
      refine next _ _ (keep N _ (Nat.ne_of_gt lz) (Nat.ne_of_gt lO) (Nat.ne_of_gt l1) (Nat.ne_of_gt l2) (Nat.ne_of_gt l3) hS) ⟨fun k v e => ?_, up (Nat.ne_of_lt lI) (keep _ _ Z.TIz Z.TITO Z.TIi1 Z.TIi2 TI3 tI),
        D1.frame _ _ _ k1 fun b hb o e => up (Nat.ne_of_lt (b1 b hb)) e, D2.frame _ _ _ k2 fun b hb o e => up (Nat.ne_of_lt (b2 b hb)) e, D3.frame _ _ _ k3 fun b hb o e => up (Nat.ne_of_lt (b3 b hb)) e,
        ⟨kp.1, kp.2.1, kp.2.2.1, fun b o c0 c1 c2 c3 c4 e => up (Nat.ne_of_lt (eN ▸ Heap.lt_size e)) (keep b o c0 c1 c2 c3 c4 (kp.2.2.2 b o c0 c1 c2 c3 c4 e))⟩, by rw [Array.size_push, sz],   .inr ⟨Nat.succ_pos _, T, oT, f, lT, up (Nat.ne_of_lt lz) zh, up (Nat.ne_of_gt lT) eT⟩⟩
      rw [Array.getElem?_push] at e
      split at e
      · rename_i q
        cases e
        rw [q, sz]
        exact ⟨_, x1, x2, x3, rfl, NS, y1, y2, y3, up (Nat.ne_of_gt NS) tp⟩
      · obtain ⟨t, x, y, u, rfl, lt', p1, p2, p3, q⟩ := tu k v e
        exact ⟨t, x, y, u, rfl, lt', p1, p2, p3, up (Nat.ne_of_gt lt') (keep _ _ (ne lt' lz) (ne lt' lO) (ne lt' l1) (ne lt' l2) (ne lt' l3) q)⟩
    rcases zz with ⟨rfl, z0, t0⟩ | ⟨pos, T, oT, f, lT, zh, eT⟩
    · exact wpAny_pyNext_zipD3_item Z D1 D2 D3 z0 tI t0 j1 j2 j3 (by omega) (by omega) (by omega) fun x1 x2 x3 h' tk y1 y2 y3 z' _ k1 k2 k3 tp szz keep => fin h' tk x1 x2 x3 y1 y2 y3 ⟨_, _, false, NS, z', tp⟩ k1 k2 k3 tp keep
    · exact next_zip3_held Z D1 D2 D3 zh eT tI j1 j2 j3 (by omega) (by omega) (by omega) fun x1 x2 x3 h' tk y1 y2 y3 z' k1 k2 k3 tp szz keep => fin h' tk x1 x2 x3 y1 y2 y3 ⟨T, oT, true, lT, z', keep _ _ (ne lT lz) (ne lT l1) (ne lT l2) (ne lT l3) eT⟩ k1 k2 k3 tp fun c o c0 _ c1 c2 c3 e => keep c o c0 c1 c2 c3 e
  · rintro acc c s₁ Q' E' ⟨tu, tI, j1, j2, j3, kp, sz, zz⟩ hS next
    have fin : ∀ h' tk, (∀ c o, c ≠ z → c ≠ TO → c ≠ i1 → c ≠ i2 → c ≠ i3 → s₁.heap.get? c = some o → h'.get? c = some o) → Q' none { s₁ with heap := h', toks := tk } := fun h' tk keep =>
      next _ (keep N _ (Nat.ne_of_gt lz) (Nat.ne_of_gt lO) (Nat.ne_of_gt l1) (Nat.ne_of_gt l2) (Nat.ne_of_gt l3) hS) ⟨fun k v e => by
        obtain ⟨t, x, y, u, rfl, lt', p1, p2, p3, q⟩ := tu k v e
        exact ⟨t, x, y, u, rfl, lt', p1, p2, p3, keep _ _ (ne lt' lz) (ne lt' lO) (ne lt' l1) (ne lt' l2) (ne lt' l3) q⟩, kp.1, kp.2.1, kp.2.2.1, fun b o c0 c1 c2 c3 c4 e => keep b o c0 c1 c2 c3 c4 (kp.2.2.2 b o c0 c1 c2 c3 c4 e)⟩
    rcases zz with ⟨n0, z0, t0⟩ | ⟨pos, T, oT, f, lT, zh, eT⟩
    · exact wpAny_pyNext_zipD3_end Z D1 D2 D3 z0 tI t0 j1 j2 j3 (by omega) (by omega) (by omega) (by omega) fun h' tk keep => fin h' tk keep
    · exact next_zip3_held_end Z D1 D2 D3 zh eT tI j1 j2 j3 (by omega) (by omega) (by omega) (by omega) fun h' tk keep => fin h' tk fun c o c0 _ c1 c2 c3 e => keep c o c0 c1 c2 c3 e
  · rintro s₁ ⟨_, _, _, _, _, _, _, ⟨_, z0, _⟩ | ⟨pos, T, oT, f, lT, zh, eT⟩⟩
    · exact ⟨_, z0, rfl⟩
    · exact absurd pos (Nat.lt_irrefl 0)
  · rintro s₁ Q' E' ⟨_, _, _, _, _, _, _, ⟨_, z0, _⟩ | ⟨pos, T, oT, f, lT, zh, eT⟩⟩ q
    · exact wpAny_pyIter_zip z0 q
    · exact absurd pos (Nat.lt_irrefl 0)
  · rintro s₁ h' ⟨tu, tI, j1, j2, j3, kp, sz, zz⟩ keep szz
    rcases zz with ⟨_, z0, t0⟩ | ⟨pos, _⟩
    · exact ⟨fun k v e => by simp at e, keep _ _ (Nat.ne_of_lt lI) tI, D1.frame _ _ _ j1 fun b hb o e => keep _ _ (Nat.ne_of_lt (b1 b hb)) e, D2.frame _ _ _ j2 fun b hb o e => keep _ _ (Nat.ne_of_lt (b2 b hb)) e, D3.frame _ _ _ j3 fun b hb o e => keep _ _ (Nat.ne_of_lt (b3 b hb)) e,
        ⟨kp.1, kp.2.1, kp.2.2.1, fun b o c0 c1 c2 c3 c4 e => keep _ _ (Nat.ne_of_lt (eN ▸ Heap.lt_size e)) (kp.2.2.2 b o c0 c1 c2 c3 c4 e)⟩, sz, .inl ⟨rfl, keep _ _ (Nat.ne_of_lt lz) z0, keep _ _ (Nat.ne_of_lt lO) t0⟩⟩
    · exact absurd pos (Nat.lt_irrefl 0)
  · have up : ∀ {b : Addr} {o : Obj}, s.heap.get? b = some o → (s.heap.push { cls := .type "list", data := .seq #[] }).get? b = some o := fun e => Heap.get?_push_of_some _ e
    exact ⟨fun k v e => by simp at e, up hTI, D1.frame _ _ _ st1 fun b hb o e => up e, D2.frame _ _ _ st2 fun b hb o e => up e, D3.frame _ _ _ st3 fun b hb o e => up e, ⟨rfl, rfl, rfl, fun b o _ _ _ _ _ e => up e⟩, rfl, .inl ⟨rfl, up hz, up hTO⟩⟩
  · rintro s' acc c ⟨tu, k1, k2, k3, k4⟩ sz h
    exact hQ s' acc c tu k1 k2 k3 k4 sz h
end
end Pd

/-! D28: list(zip(a, b, c)): the expression -/
namespace Pd
open PySem PySem.Spec PyProof.Rows L2 Vd
open Classical
/-- many things laid at once -/
noncomputable def layAll (H : Hp) (R : Addr → HO → Prop) : Hp := fun b => if h : ∃ o, R b o then some (Classical.choose h) else H b
section
variable {H : Hp} {R : Addr → HO → Prop}
theorem lay_at (fn : ∀ b o o', R b o → R b o' → o = o') {b : Addr} {o : HO} (h : R b o) : layAll H R b = some o := by
  have e : ∃ o, R b o := ⟨o, h⟩
  unfold layAll
  rw [dif_pos e, fn b _ _ (Classical.choose_spec e) h]
theorem lay_old {b : Addr} (h : ¬ ∃ o, R b o) : layAll H R b = H b := by unfold layAll; rw [dif_neg h]
theorem lay_is {b : Addr} {o : HO} (h : layAll H R b = some o) : R b o ∨ (H b = some o ∧ ¬ ∃ o, R b o) := by
  by_cases e : ∃ o, R b o
  · unfold layAll at h
    rw [dif_pos e] at h
    injection h with h
    exact .inl (h ▸ Classical.choose_spec e)
  · rw [lay_old e] at h
    exact .inr ⟨h, e⟩
end
section
variable {X : Cx} {pins : List (Addr × Obj)} {σ : L2.St} {H : Hp} {s s' : Shared} {R : Addr → HO → Prop}
theorem laidAll (I : Inv X pins σ H s) (fn : ∀ b o o', R b o → R b o' → o = o') (os : s'.os = s.os) (gs : s'.gens = s.gens) (k : ∀ b o, s.heap.get? b = some o → s'.heap.get? b = some o)
    (hi : ∀ b o, R b o → s.heap.objs.size ≤ b) (new : ∀ b o, R b o → ObjOk X.prog X.w (layAll H R) s'.heap b o) : Inv X pins σ (layAll H R) s' := by
  have none_ : ∀ b o, R b o → H b = none := fun b o r => I.hok.fresh (hi b o r)
  have up : ∀ b o, H b = some o → layAll H R b = some o := fun b o e => by
    rw [lay_old]
    · exact e
    · rintro ⟨o', r⟩
      rw [none_ b o' r] at e
      cases e
  refine I.call' (ch := []) os ⟨fun b o e _ _ _ => k b o e, fun b o e _ _ _ => ⟨o.slots, k b o e⟩, fun b o e n _ => ?_, fun b o e _ => ⟨o, k b o e⟩, fun b xs e => up _ _ e, fun b o u e => up _ _ e, fun b ps e => ⟨#[], by rw [up _ _ e]; simp⟩⟩ (fun b o e => ?_) (by rw [gs]; exact I.bare) fun _ z => nomatch z
  · rw [lay_old]
    · exact n
    · rintro ⟨o', r⟩
      exact absurd (Nat.lt_of_lt_of_le (Heap.lt_size e) (hi b o' r)) (Nat.lt_irrefl _)
  · rcases lay_is e with r | ⟨e, _⟩
    · exact new b o r
    · exact (I.hok b o e).stay (fun c v _ q => k c v q) (fun c q => up _ _ q) fun c xs q => up _ _ q
/-- a list or a tuple to be walked -/
def SqA (K : PySem.W.Frag) (H : Hp) (a : Addr) (xs : List V) : Prop := SqL K H a xs ∨ SqT K H a xs
theorem src_of {a : Addr} {xs : List V} (I : Inv X pins σ H s) (h : SqA X.K H a xs) : ∃ (its : Array Value) (o : Obj) (Hd : Heap → Prop), Vals xs its.toList ∧ its.size ≤ sizeLine ∧ Begins (.ref a) o Hd ∧ Hd s.heap ∧ a < s.heap.objs.size ∧
    ∀ (A : Around) (it : Addr), A.handled = none → a ≠ it → ∃ St : Nat → Heap → Prop, Draws X.prog X.w A it [it, a] its.size (fun i v => its[i]? = some v) St ∧ ∀ h' : Heap, h'.get? it = some o → Hd h' → St 0 h' := by
  rcases h with h | h
  · obtain ⟨its, r, p, z⟩ := I.list h
    refine ⟨its.toArray, _, _, r, ?_, begins_list a its.toArray, p.isList, p.lt, fun A it hh ne => ⟨_, Draws.list hh it a ne its.toArray, fun h' e hd => ⟨⟨_, e, rfl, rfl⟩, hd⟩⟩⟩
    rw [r.length] at z
    simpa using z
  · obtain ⟨its, r, p, z⟩ := I.tuple h
    have lt : a < s.heap.objs.size := by obtain ⟨_, q, _⟩ := id p; exact Heap.lt_size q
    refine ⟨its.toArray, _, _, r, ?_, begins_tuple a its.toArray, p, lt, fun A it hh ne => ⟨_, Draws.tuple hh it a ne its.toArray, fun h' e hd => ⟨⟨_, e, rfl, rfl⟩, hd⟩⟩⟩
    rw [r.length] at z
    simpa using z
end
def tLZip3 (K : PySem.W.Frag) (ta : TA) : TE := fun σ H Q => ta σ H fun vs H1 => ∃ a b c xs ys zs, vs = [.ref a, .ref b, .ref c] ∧ SqA K H1 a xs ∧ SqA K H1 b ys ∧ SqA K H1 c zs ∧
  ∀ p (ts : List Addr) H2, H1 p = none → (∀ q o, H1 q = some o → H2 q = some o) → H2 p = some (.lst (ts.map V.ref)) → ts.length = min (min xs.length ys.length) zs.length →
    (∀ (k : Nat) (t : Addr), ts[k]? = some t → H1 t = none ∧ t ≠ p ∧ ∃ x y z, xs[k]? = some x ∧ ys[k]? = some y ∧ zs[k]? = some z ∧ H2 t = some (.tup [x, y, z])) → Q (.ref p) H2
theorem vals_arr {xs : List V} {its : Array Value} {k : Nat} {u : Value} (r : Vals xs its.toList) (e : its[k]? = some u) : ∃ x, xs[k]? = some x ∧ RelV x u := by
  have lt : k < xs.length := by
    rw [r.length]
    have := (Array.getElem?_eq_some_iff.mp e).1
    simpa using this
  obtain ⟨u', e', q⟩ := r.get (List.getElem?_eq_getElem lt)
  have : its[k]? = some u' := by simpa using e'
  rw [e] at this
  cases this
  exact ⟨_, List.getElem?_eq_getElem lt, q⟩
theorem refs_of {acc : List Value} (h : ∀ (k : Nat) v, acc[k]? = some v → ∃ t : Addr, v = .ref t) : ∃ ts : List Addr, acc = ts.map Value.ref := by
  induction acc with
  | nil => exact ⟨[], rfl⟩
  | cons v vs ih =>
    obtain ⟨t, rfl⟩ := h 0 v rfl
    obtain ⟨ts, rfl⟩ := ih fun k v e => h (k + 1) v (by simpa using e)
    exact ⟨t :: ts, rfl⟩
theorem vals_refs : ∀ ts : List Addr, Vals (ts.map V.ref) (ts.map Value.ref)
  | [] => .nil
  | t :: ts => .cons rfl (vals_refs ts)
section
variable {X : Cx}
theorem pe_lzip3 {e1 e2 e3 : Expr} {ta : TA} {p p2 pos pos2 : Pos} (hc : X.calm = true) (hg : Gl X "list") (hm : X.mg "list" = none) (hg2 : Gl X "zip") (hm2 : X.mg "zip" = none) (ha : PA X [e1, e2, e3] ta)
    (hs : starEach [e1, e2, e3] X.env = (false, eval e1 X.env) :: starEach [e2, e3] X.env := by rfl) (hpl : (backTo pos2 (starEach [e2, e3] X.env)).any (·.1) = false := by rfl)
    (he : starEach [.Call (.Name "zip" p2) [e1, e2, e3] [] pos2] X.env = (false, eval (.Call (.Name "zip" p2) [e1, e2, e3] [] pos2) X.env) :: starEach [] X.env := by rfl) :
    PE X (.Call (.Name "list" p) [.Call (.Name "zip" p2) [e1, e2, e3] [] pos2] [] pos) (tLZip3 X.K ta) := by
  refine ⟨fun pins s σ H Q I h => ?_⟩
  refine Call_ (ld_blt I hg hm boot_list (PyProof.Rows.callWith_type1 ?_ he rfl))
  rw [he]
  show wpAny _ _ (spliced ((false, eval (.Call (.Name "zip" p2) [e1, e2, e3] [] pos2) X.env) :: backTo pos (starEach [] X.env))) _ _ s
  refine Calls.spliced_cons (Call_ (ld_blt I hg2 hm2 PyProof.Rows.boot_zip (PyProof.Rows.callWith_type1 (thn (ha.run pos2 pins s σ H _ I h) fun us s1 ⟨vs, H1, I1, r1, q1⟩ => ?_) hs hpl)))
  obtain ⟨a, b, c, xs, ys, zs, rfl, ka, kb, kc, q⟩ := q1
  obtain ⟨rfl⟩ : us = [.ref a, .ref b, .ref c] := by
    cases r1 with
    | cons x y =>
      cases y with
      | cons y z =>
        cases z with
        | cons z w =>
          cases w
          cases x
          cases y
          cases z
          rfl
  obtain ⟨i1, o1, h1, v1, n1, b1, s1', l1, d1⟩ := src_of I1 ka
  obtain ⟨i2, o2, h2, v2, n2, b2, s2', l2, d2⟩ := src_of I1 kb
  obtain ⟨i3, o3, h3, v3, n3, b3, s3', l3, d3⟩ := src_of I1 kc
  have hh : ∀ A : Around, A.handled = none → A.in1.handled = none := fun A z => z
  have hd := I1.ok.hd hc
  refine zip_begins3 b1 b2 b3 s1' s2' s3' fun h' hz hTI hTO e1 e2 e3 sz keep => ?_
  refine Calls.spliced_nil ?_
  obtain ⟨St1, D1, st1⟩ := d1 X.A.in1.in1.in1 s1.heap.objs.size hd (Nat.ne_of_lt l1)
  obtain ⟨St2, D2, st2⟩ := d2 X.A.in1.in1.in1 (s1.heap.objs.size + 1) hd (Nat.ne_of_lt (Nat.lt_succ_of_lt l2))
  obtain ⟨St3, D3, st3⟩ := d3 X.A.in1.in1.in1 (s1.heap.objs.size + 2) hd (Nat.ne_of_lt (Nat.lt_succ_of_lt (Nat.lt_succ_of_lt l3)))
  have low : ∀ {x y : Nat}, x < s1.heap.objs.size → ∀ b : Addr, b ∈ [s1.heap.objs.size + y, x] → y < 6 → b < h'.objs.size := fun {x y} lx b hb ly => by
    rw [sz]
    have : b = s1.heap.objs.size + y ∨ b = x := by simpa using hb
    rcases this with rfl | rfl
    · exact Nat.add_lt_add_left ly _
    · exact Nat.lt_add_right 6 lx
  have N0 : s1.heap.objs.size < h'.objs.size := by rw [sz]; exact Nat.lt_add_of_pos_right (by decide)
  have only : ∀ {x : Addr}, x < s1.heap.objs.size → ∀ y ∈ [x], y < s1.heap.objs.size := fun {x} lx y hy => by
    have : y = x := by simpa using hy
    rw [this]
    exact lx
  have Z : ZipSep3 (s1.heap.objs.size + 5) (s1.heap.objs.size + 3) (s1.heap.objs.size + 4) s1.heap.objs.size (s1.heap.objs.size + 1) (s1.heap.objs.size + 2) [s1.heap.objs.size, a] [s1.heap.objs.size + 1, b] [s1.heap.objs.size + 2, c] :=
    zip_sep3 (N := s1.heap.objs.size) (fp1 := [a]) (fp2 := [b]) (fp3 := [c]) (only l1) (only l2) (only l3)
  have bnd : min (min i1.size i2.size) i3.size ≤ sizeLine := by omega
  refine call_list_zip3 (s := { s1 with heap := h' }) Z D1 D2 D3 bnd (fun x hx => low l1 (y := 0) x hx (by decide)) (fun x hx => low l2 (y := 1) x hx (by decide)) (fun x hx => low l3 (y := 2) x hx (by decide))
    hz hTI hTO (st1 _ e1 (b1.keeps _ _ s1' keep)) (st2 _ e2 (b2.keeps _ _ s2' keep)) (st3 _ e3 (b3.keeps _ _ s3' keep)) Z.TIi3 fun s' acc cap tu g1 g2 g3 low' sza lst => ?_
  have k' : ∀ q o, s1.heap.get? q = some o → s'.heap.get? q = some o := fun q o e => by
    have lt := Heap.lt_size e
    have ne : ∀ j, q ≠ s1.heap.objs.size + j := fun j => Nat.ne_of_lt (Nat.lt_of_lt_of_le lt (Nat.le_add_right _ _))
    exact low' q o (ne 5) (ne 4) (ne 0) (ne 1) (ne 2) (keep q o e)
  have len1 : i1.size = xs.length := by rw [v1.length]; simp
  have len2 : i2.size = ys.length := by rw [v2.length]; simp
  have len3 : i3.size = zs.length := by rw [v3.length]; simp
  obtain ⟨ts, ets⟩ := refs_of (acc := acc.toList) fun k v e => by
    obtain ⟨t, _, _, _, z, _⟩ := tu k v (by simpa using e)
    exact ⟨t, z⟩
  have lts : ts.length = min (min xs.length ys.length) zs.length := by
    rw [← len1, ← len2, ← len3, ← sza]
    have := congrArg List.length ets
    simpa using this.symm
  have tat : ∀ {k : Nat} {t : Addr}, ts[k]? = some t → ∃ x y z u v w, h'.objs.size < t ∧ xs[k]? = some x ∧ ys[k]? = some y ∧ zs[k]? = some z ∧ RelV x u ∧ RelV y v ∧ RelV z w ∧ IsTupOf3 s'.heap t u v w := fun {k t} e => by
    have e' : acc[k]? = some (.ref t) := by
      have : acc.toList[k]? = some (.ref t) := by rw [ets, List.getElem?_map, e]; rfl
      simpa using this
    obtain ⟨t', u, v, w, z, lt, p1, p2, p3, tp⟩ := tu k _ e'
    cases z
    obtain ⟨x, ex, rx⟩ := vals_arr v1 p1
    obtain ⟨y, ey, ry⟩ := vals_arr v2 p2
    obtain ⟨z, ez, rz⟩ := vals_arr v3 p3
    exact ⟨x, y, z, u, v, w, lt, ex, ey, ez, rx, ry, rz, tp⟩
  let R : Addr → HO → Prop := fun q o => (q = h'.objs.size ∧ o = .lst (ts.map V.ref)) ∨ (h'.objs.size < q ∧ ∃ (k : Nat) (x y z : V), ts[k]? = some q ∧ xs[k]? = some x ∧ ys[k]? = some y ∧ zs[k]? = some z ∧ o = .tup [x, y, z])
  have fn : ∀ q o o', R q o → R q o' → o = o' := by
    rintro q o o' (⟨rfl, rfl⟩ | ⟨lt, k, x, y, z, e, ex, ey, ez, rfl⟩) (⟨e', rfl⟩ | ⟨lt', k', x', y', z', e', ex', ey', ez', rfl⟩)
    · rfl
    · exact absurd lt' (Nat.lt_irrefl _)
    · rw [e'] at lt
      exact absurd lt (Nat.lt_irrefl _)
    · obtain ⟨_, _, _, u, v, w, _, f1, f2, f3, r1, r2, r3, tp⟩ := tat e
      obtain ⟨_, _, _, u', v', w', _, f1', f2', f3', r1', r2', r3', tp'⟩ := tat e'
      rw [f1] at ex
      cases ex
      rw [f2] at ey
      cases ey
      rw [f3] at ez
      cases ez
      rw [f1'] at ex'
      cases ex'
      rw [f2'] at ey'
      cases ey'
      rw [f3'] at ez'
      cases ez'
      have tp : s'.heap.get? q = _ := tp
      rw [show s'.heap.get? q = _ from tp'] at tp
      injection tp with tp
      injection tp with _ _ tp
      injection tp with tp
      simp at tp
      obtain ⟨rfl, rfl, rfl⟩ := tp
      rw [r1.inj r1', r2.inj r2', r3.inj r3']
  have hi : ∀ q o, R q o → s1.heap.objs.size ≤ q := by
    rintro q o (⟨rfl, _⟩ | ⟨lt, _⟩)
    · exact Nat.le_of_lt N0
    · exact Nat.le_of_lt (Nat.lt_trans N0 lt)
  have I2 : Inv X pins σ (layAll H1 R) s' := by
    refine laidAll I1 fn g3 g1 k' hi ?_
    rintro q o (⟨rfl, rfl⟩ | ⟨lt, k, x, y, z, e, ex, ey, ez, rfl⟩)
    · exact ⟨by rw [List.length_map, lts, ← len1, ← len2, ← len3]; exact bnd, acc.toList, cap, by rw [ets]; exact vals_refs ts, by rw [Array.toArray_toList]; exact lst⟩
    · obtain ⟨_, _, _, u, v, w, _, f1, f2, f3, r1, r2, r3, tp⟩ := tat e
      rw [f1] at ex
      cases ex
      rw [f2] at ey
      cases ey
      rw [f3] at ez
      cases ez
      exact ⟨by show 3 ≤ sizeLine; decide, [u, v, w], .cons r1 (.cons r2 (.cons r3 .nil)), ⟨_, tp, rfl, _, rfl⟩⟩
  have nn : ∀ q o, R q o → H1 q = none := fun q o r => I1.hok.fresh (hi q o r)
  refine ⟨.ref h'.objs.size, _, I2, rfl, q h'.objs.size ts _ (nn _ _ (.inl ⟨rfl, rfl⟩)) (fun q o e => ?_) (lay_at fn (.inl ⟨rfl, rfl⟩)) lts fun k t e => ?_⟩
  · rw [lay_old]
    · exact e
    · rintro ⟨o', r⟩
      rw [nn q o' r] at e
      cases e
  · obtain ⟨x, y, z, u, v, w, lt, f1, f2, f3, r1, r2, r3, tp⟩ := tat e
    have r : R t (.tup [x, y, z]) := .inr ⟨lt, k, x, y, z, e, f1, f2, f3, rfl⟩
    exact ⟨nn _ _ r, Nat.ne_of_gt lt, x, y, z, f1, f2, f3, lay_at fn r⟩
end
end Pd

/-! D29: list(zip(a, b, c)) by data -/
namespace Pd
open PySem PySem.Spec PyProof.Rows L2 Vd
open Classical
def seqX : PyData → Option (List PyData)
  | .list ds => some ds
  | .tuple ds => some ds
  | _ => none
def zip3D : List PyData → List PyData → List PyData → List PyData
  | a :: as, b :: bs, c :: cs => .tuple [a, b, c] :: zip3D as bs cs
  | _, _, _ => []
def wLZip3 (rs : List Dv) (P : DK) : Prop := match rs with
  | [.d x f, .d y g, .d z h] => ∃ as bs cs, seqX x = some as ∧ seqX y = some bs ∧ seqX z = some cs ∧ (f.parts || pures as) = true ∧ (g.parts || pures bs) = true ∧ (h.parts || pures cs) = true ∧ P (.d (.list (zip3D as bs cs)) .fr)
  | _ => False
def dLZip3 (wa : DA) : DE := fun ρ P => wa ρ fun rs => wLZip3 rs P
theorem zip3D_len : ∀ {as bs cs : List PyData}, (zip3D as bs cs).length = min (min as.length bs.length) cs.length
  | [], _, _ => by simp [zip3D]
  | _ :: _, [], _ => by simp [zip3D]
  | _ :: _, _ :: _, [] => by simp [zip3D]
  | a :: as, b :: bs, c :: cs => by
    simp only [zip3D, List.length_cons]
    rw [zip3D_len]
    omega
theorem zip3D_at : ∀ {as bs cs : List PyData} {i : Nat} {x y z : PyData}, as[i]? = some x → bs[i]? = some y → cs[i]? = some z → (zip3D as bs cs)[i]? = some (.tuple [x, y, z])
  | a :: as, b :: bs, c :: cs, 0, x, y, z, e1, e2, e3 => by
    simp at e1 e2 e3
    subst e1 e2 e3
    rfl
  | a :: as, b :: bs, c :: cs, i + 1, x, y, z, e1, e2, e3 => by
    simp only [zip3D, List.getElem?_cons_succ] at *
    exact zip3D_at e1 e2 e3
  | [], _, _, _, _, _, _, e1, _, _ => by simp at e1
  | _ :: _, [], _, _, _, _, _, _, e2, _ => by simp at e2
  | _ :: _, _ :: _, [], _, _, _, _, _, _, e3 => by simp at e3
section
variable {K : PySem.W.Frag} {W : Wd} {ρ : Ro} {σ : L2.St} {H H1 H2 : Hp} {v : V}
theorem ER.seq {x : PyData} {ds : List PyData} {f : Fl} (S : Sim K W ρ σ H) (s : Bu W.β H H1) (h : ER K W ρ σ H H1 v (.d x f)) (e : seqX x = some ds) (ok : (f.parts || pures ds) = true) :
    ∃ a xs, v = .ref a ∧ SqA K H1 a xs ∧ DatAll K (res (okg W ρ σ) H1) xs ds := by
  cases x with
  | list es =>
    cases e
    obtain ⟨a, xs, e, sq, _, g⟩ := ER.lst S s h
    exact ⟨a, xs, e, .inl sq, g ok⟩
  | tuple es =>
    cases e
    obtain ⟨a, xs, e, sq, _, g⟩ := ER.tup S s h
    exact ⟨a, xs, e, .inr sq, g ok⟩
  | _ => cases e
theorem datAll_of {F : Hp} : ∀ {vs : List V} {ds : List PyData}, vs.length = ds.length → (∀ (i : Nat) v d, vs[i]? = some v → ds[i]? = some d → Dat K F v d) → DatAll K F vs ds
  | [], [], _, _ => .nil
  | [], _ :: _, e, _ => by simp at e
  | _ :: _, [], e, _ => by simp at e
  | v :: vs, d :: ds, e, h => .cons (h 0 v d rfl rfl) (datAll_of (by simpa using e) fun i v d e1 e2 => h (i + 1) v d (by simpa using e1) (by simpa using e2))
theorem three_er {vs : List V} {r1 r2 r3 : Dv} (h : ERs K W ρ σ H H1 vs [r1, r2, r3]) : ∃ v1 v2 v3, vs = [v1, v2, v3] ∧ ER K W ρ σ H H1 v1 r1 ∧ ER K W ρ σ H H1 v2 r2 ∧ ER K W ρ σ H H1 v3 r3 := by
  cases h with
  | cons a _ h =>
    cases h with
    | cons b _ h =>
      cases h with
      | cons c _ h =>
        cases h
        exact ⟨_, _, _, rfl, a, b, c⟩
theorem snd_lzip3 {ta : TA} {wa : DA} (h : SndA K ta wa) : Snd K (tLZip3 K ta) (dLZip3 wa) := ⟨fun W ρ σ H P Q S hw q =>
  h.go W ρ σ H _ _ S hw fun rs vs H1 s1 e1 p1 => by
    unfold wLZip3 at p1
    split at p1
    · rename_i x f y g z h
      obtain ⟨as, bs, cs, ex, ey, ez, kf, kg, kh, p1⟩ := p1
      obtain ⟨v1, v2, v3, rfl, r1, r2, r3⟩ := three_er e1
      obtain ⟨a, xs, rfl, sa, da⟩ := ER.seq S s1 r1 ex kf
      obtain ⟨b, ys, rfl, sb, db⟩ := ER.seq S s1 r2 ey kg
      obtain ⟨c, zs, rfl, sc, dc⟩ := ER.seq S s1 r3 ez kh
      refine ⟨a, b, c, xs, ys, zs, rfl, sa, sb, sc, fun p ts H2 np up ep lt tat => ?_⟩
      have S1 := S.step s1
      have b2 : Bu W.β H1 H2 := Bu.of up
      refine q (.d (.list (zip3D as bs cs)) .fr) _ H2 (s1.trans b2) ⟨p, rfl, s1.back S.now np, ts.map V.ref, ep, datAll_of ?_ fun i v d e1 e2 => ?_⟩ p1
      · rw [List.length_map, lt, zip3D_len, dats_len da, dats_len db, dats_len dc]
      · rw [List.getElem?_map, Option.map_eq_some_iff] at e1
        obtain ⟨t, et, rfl⟩ := e1
        obtain ⟨n, tp, x', y', z', q1, q2, q3, tup⟩ := tat i t et
        obtain ⟨dx, k1, d1⟩ := dats_nth da q1
        obtain ⟨dy, k2, d2⟩ := dats_nth db q2
        obtain ⟨dz, k3, d3⟩ := dats_nth dc q3
        rw [zip3D_at k1 k2 k3] at e2
        cases e2
        have up' : ∀ q o, res (okg W ρ σ) H1 q = some o → res (fun q => okg W ρ σ q ∧ q ≠ p) H2 q = some o := res_up fun q o k e => ⟨⟨k, ne_of_none e np⟩, up _ _ e⟩
        exact .tup (.inl (.inl (res_at.mpr ⟨⟨S1.okg_new n, tp⟩, tup⟩))) (.cons (Dat.up up' d1) (.cons (Dat.up up' d2) (.cons (Dat.up up' d3) .nil)))
    · exact p1.elim⟩
end
section
variable {X : Cx} {K : PySem.W.Frag} {e1 e2 e3 : Expr} {ta : TA} {wa : DA} {p p2 pos pos2 : Pos}
theorem g_lzip3 (hK : X.K = K) (hc : X.calm = true) (hg : Gl X "list") (hm : X.mg "list" = none) (hg2 : Gl X "zip") (hm2 : X.mg "zip" = none) (ha : PDA X [e1, e2, e3] ta wa)
    (hs : starEach [e1, e2, e3] X.env = (false, eval e1 X.env) :: starEach [e2, e3] X.env := by rfl) (hpl : (backTo pos2 (starEach [e2, e3] X.env)).any (·.1) = false := by rfl)
    (he : starEach [.Call (.Name "zip" p2) [e1, e2, e3] [] pos2] X.env = (false, eval (.Call (.Name "zip" p2) [e1, e2, e3] [] pos2) X.env) :: starEach [] X.env := by rfl) :
    PD X (.Call (.Name "list" p) [.Call (.Name "zip" p2) [e1, e2, e3] [] pos2] [] pos) (tLZip3 K ta) (dLZip3 wa) := by
  subst hK
  exact ⟨pe_lzip3 hc hg hm hg2 hm2 ha.pa hs hpl he, snd_lzip3 ha.snd⟩
end
end Pd

namespace Cm
open PySem PySem.Spec PyProof.Rows L2 Vd Pd
/-! C25: pieces ended, by the law (list of a zip of three) -/
/-! _law_ended -/
abbrev N__law_ended : List Str := ["hall", "way", "rows", "name", "piece", "arc"]
def ws__law_ended : DS := (dSeq (dSetD 2 (dLZip3 (dCons (dOwn 2 V__law_met (dCons (dVar 0) (dCons (dVar 1) dNil))) (dCons (dOwn 2 V__law_indexes (dCons (dVar 0) (dCons (dVar 1) dNil))) (dCons (dOp wIx (dVar 1) (dC (.int 1))) dNil)))))
  (dRet (dLc (dIter (dVar 2)) (wgTup 3 (wgCons (fun r ρ P => asgD 3 r ρ P) (wgCons (fun r ρ P => asgD 4 r ρ P) (wgCons (fun r ρ P => asgD 5 r ρ P) wgNil)))) (dTest (dOp wNe (dOp wIx (dVar 5) (dC (.int 0))) (dC (.str "up")))) (dTup (dCons (dVar 3) (dCons (dVar 4) dNil))) [3, 4, 5])))
abbrev W__law_ended : WF := runD N__law_ended ws__law_ended
theorem zip3_rows {h : Hall} : ∀ {l : List Arc} {x : Str} {ns : List Int}, pathB h x l = true →
    zip3D (strsD (metH h x l)) (intsD ns) (l.map arcD) = (l.zip ns).map fun q => .tuple [.str (startH h q.1), .int q.2, arcD q.1]
  | [], x, ns, _ => by cases ns <;> rfl
  | a :: l, x, [], _ => rfl
  | a :: l, x, n :: ns, p => by
    have e : (decide (startH h a = x) && pathB h (endH h a) l) = true := p
    rw [Bool.and_eq_true, decide_eq_true_eq] at e
    have ih := zip3_rows (l := l) (x := endH h a) (ns := ns) e.2
    show PyData.tuple [.str x, .int n, arcD a] :: zip3D (strsD (metH h (endH h a) l)) (intsD ns) (l.map arcD) = _
    rw [ih, ← e.1]
    rfl
theorem w__law_ended {as : List Sl} {P : DK} (hv : V__law_ended14 as P) : W__law_ended as P := by
  obtain ⟨h, x, l, rfl, hi, few, w, p⟩ := hv
  refine ⟨rfl, h, x, l, rfl, hi, few, w, rfl, h, x, l, rfl, few, w.arcs, _, rfl, _, _, _, rfl, rfl, rfl, rfl, rfl, rfl, rfl, rfl, ?_⟩
  rw [zip3_rows w.path]
  refine lc_gen (fun q : Arc × Int => .tuple [.str (startH h q.1), .int q.2, arcD q.1]) (fun q => (pieceOf h q).map pieceD) (l.zip (sumsH h l)) [] (by rw [List.length_zip]; simp; omega) (fun q mq acc k' few' nx => ?_) ?_
  · obtain ⟨a, n⟩ := q
    cases a with
    | up j => exact ⟨rfl, rfl, rfl, rfl, rfl, rfl, _, rfl, by rw [← List.append_nil acc]; exact nx⟩
    | next y => exact ⟨rfl, rfl, rfl, rfl, rfl, rfl, _, rfl, leb rfl, rfl, few', nx⟩
    | down j => exact ⟨rfl, rfl, rfl, rfl, rfl, rfl, _, rfl, leb rfl, rfl, few', nx⟩
  · rw [filter_map_map, List.nil_append]
    exact p
end Cm

namespace K14
open PySem PySem.Spec PyProof.Rows L2 Vd Evl
def topS (i : Nat) : Stmt := PySem.Challenge.pw_fillerfed_k14_ways_and_walks.main.body.getD i (.Pass ⟨0, 0, 0, 0⟩)
abbrev sBag : Stmt := topS 21
abbrev sTake : Stmt := topS 22
abbrev sSome : Stmt := topS 23
abbrev sAlike : Stmt := topS 25
theorem scBag : FnScope ["script", "cell"] ["script"] (defScope sBag) := ⟨rfl, rfl, rfl, by decide +kernel, rfl, by decide +kernel, by decide +kernel⟩
theorem scTake : FnScope ["bag", "many", "cell", "stirred", "value", "begin", "second"] ["bag", "many"] (defScope sTake) := ⟨rfl, rfl, rfl, by decide +kernel, rfl, by decide +kernel, by decide +kernel⟩
theorem scSome : FnScope ["bag", "things"] ["bag", "things"] (defScope sSome) := ⟨rfl, rfl, rfl, by decide +kernel, rfl, by decide +kernel, by decide +kernel⟩

/-! ### heaps: all as it was but the bag -/
def But (b : Addr) (H H' : Hp) : Prop := (∀ p o, p ≠ b → H p = some o → H' p = some o) ∧
  ∀ (x y z : Int) (c : Addr), H b = some (.lst [.int x, .int y, .int z, .ref c]) → ∃ x' y' z' : Int, H' b = some (.lst [.int x', .int y', .int z', .ref c])
theorem But.refl (b : Addr) (H : Hp) : But b H H := ⟨fun _ _ _ e => e, fun x y z _ e => ⟨x, y, z, e⟩⟩
theorem But.trans {b : Addr} {H H1 H2 : Hp} (x : But b H H1) (y : But b H1 H2) : But b H H2 := ⟨fun p o n e => y.1 p o n (x.1 p o n e), fun i j k c e => by
  obtain ⟨i', j', k', e'⟩ := x.2 i j k c e
  exact y.2 _ _ _ _ e'⟩
theorem But.of {b : Addr} {H H1 : Hp} (x : Same H H1) : But b H H1 := ⟨fun p o _ e => x p o e, fun i j k c e => ⟨i, j, k, x _ _ e⟩⟩
theorem But.upd {b c : Addr} {H H1 : Hp} {i j k i' j' k' : Int} (x : But b H H1) (at_b : H b = some (.lst [.int i, .int j, .int k, .ref c])) : But b H (upd H1 b (.lst [.int i', .int j', .int k', .ref c])) := ⟨fun p u n e => by
  rw [upd_ne n]
  exact x.1 p u n e, fun i2 j2 k2 c2 e => by
  rw [at_b] at e
  cases e
  exact ⟨i', j', k', upd_same⟩⟩
theorem But.new {b p : Addr} {H H1 : Hp} {o : HO} (x : But b H H1) (n : H1 p = none) : But b H (L2.upd H1 p o) := ⟨fun q u ne e => by
  have e1 := x.1 q u ne e
  rw [upd_ne (ne_of_none e1 n)]
  exact e1, fun i j k c e => by
  obtain ⟨i', j', k', e'⟩ := x.2 i j k c e
  exact ⟨i', j', k', by rw [upd_ne (ne_of_none e' n)]; exact e'⟩⟩
def BagAt (H : Hp) (b : Addr) : Prop := ∃ (x y z : Int) (c : Addr) (ns : List Int), H b = some (.lst [.int x, .int y, .int z, .ref c]) ∧ H c = some (.lst (ns.map V.int)) ∧ ns.length ≤ 63
theorem same_new {H : Hp} {p : Addr} {o : HO} (h : H p = none) : Same H (upd H p o) := fun b x e => by
  rw [upd_ne (ne_of_none e h)]
  exact e
theorem len_line {n : Nat} (h : n ≤ 100000) : n ≤ sizeLine := Nat.le_trans h (by decide)

section
variable {P : Program} {w : World} {K : PySem.W.Frag} {mg : Str → Option Value} {base : Heap}
/-! ### the bag -/
def spBag (K : PySem.W.Frag) : Sp := fun vs H Q _ => ∃ (a : Addr) (ns : List Int), vs = [.ref a] ∧ SqL K H a (ns.map V.int) ∧ ns.length ≤ 63 ∧ ∀ H' p, Same H H' → H p = none → BagAt H' p → Q (.ref p) H'
theorem cut_ints (ns : List Int) (lo hi : Option Int) : ∃ ms : List Int, cutV (ns.map V.int) lo hi = ms.map V.int ∧ ms.length ≤ ns.length := by
  refine ⟨(ns.drop (HT.sIx (ns.map V.int).length 0 lo)).take (HT.sIx (ns.map V.int).length (ns.map V.int).length hi - HT.sIx (ns.map V.int).length 0 lo), ?_, ?_⟩
  · unfold cutV
    rw [List.map_take, List.map_drop]
  · rw [List.length_take, List.length_drop]
    omega
theorem ok_bag {f : Addr} {fd : FuncData} (F : Fun K "_law_bag" "_law_bag" sBag f fd) (ma : mg "abs" = none) : FnOk P w K mg base CX0 1 f fd ["script"] (spBag K) := by
  refine F.ok scBag (fun vs H Q E h => ?_) (fun cdv A outer s H vs Q E hr h => ?_)
  · obtain ⟨a, ns, rfl, _⟩ := h
    rfl
  · obtain ⟨a, ns, rfl, hS, hlen, q⟩ := h
    refine ⟨_, pss_one (ps_ret (pe_lst (pa_cons pe_int (pa_cons pe_int (pa_cons pe_int (pa_cons
      (pe_lc (own := [("cell", 1)]) (g := gName 1) (tt := tYes) rfl scBag.nd (pi_list (pe_slice sl_list (pv 0) po_none (po_some pe_int)))
        (blkOk_by (N := ["script", "cell"]) (sc := defScope sBag) (by decide +kernel)) (fun _ _ _ _ _ => pg_name (i := 1) scBag.nd rfl (Or.inl rfl)) (fun _ _ _ _ _ => pts_nil)
        (fun _ _ _ _ _ => pe_callB call_abs (by rfl) ma (by decide +kernel) (pa_cons (pv 1) pa_nil)))
      pa_nil)))))), ?_⟩
    obtain ⟨ms, cut, small⟩ := cut_ints ns none (some 63)
    refine ⟨.ref a, rfl, 63, rfl, a, ns.map V.int, rfl, hS, fun c nc => ?_⟩
    rw [cut]
    have s1 : Same H (upd H c (.lst (ms.map V.int))) := same_new nc
    refine ⟨c, rfl, ⟨_, SqL.of upd_same⟩, fun D nD => ?_⟩
    have cD : c ≠ D := ne_of_none (upd_same (H := H) (a := c)) nD
    refine lc_list (K := K) (a := c) (xs := ms.map V.int) (fun i G => ∃ os : List Int, os.length = i ∧ G D = some (.lst (os.map V.int)) ∧ G c = some (.lst (ms.map V.int)) ∧ Same H G) ?_ ?_ ?_ ?_
    · exact ⟨[], rfl, upd_same, by rw [upd_ne cD, upd_same], s1.trans (same_new nD)⟩
    · rintro i G _ ⟨os, _, _, at_c, _⟩
      exact SqL.of at_c
    · rintro i x G at_i ⟨os, len, at_D, at_c, same⟩
      obtain ⟨n, rfl⟩ : ∃ n, x = V.int n := by
        rw [List.getElem?_map] at at_i
        cases e : ms[i]? with
        | none => rw [e] at at_i; cases at_i
        | some n => rw [e] at at_i; exact ⟨n, (Option.some.inj at_i).symm⟩
      have lt : i < ms.length := by
        have := (List.getElem?_eq_some_iff.mp at_i).1
        rwa [List.length_map] at this
      refine ⟨rfl, _, rfl, n, rfl, _, at_D, ?_, os ++ [if n < 0 then -n else n], by simp [len], ?_, ?_, ?_⟩
      · rw [List.length_map]
        exact small1000 (by omega)
      · rw [upd_same, List.map_append]
        rfl
      · rw [upd_ne cD]
        exact at_c
      · refine fun p o e => ?_
        have e1 := same p o e
        rw [upd_ne (ne_of_none e (s1.free nD))]
        exact e1
    · rintro G ⟨os, len, at_D, at_c, same⟩
      refine ⟨len_line (by show 4 ≤ 100000; decide), fun p np => ?_⟩
      refine q _ p (same.trans (same_new np)) (same.free np) ⟨0, 1234567891, 0, D, os, upd_same, ?_, ?_⟩
      · rw [upd_ne (ne_of_none at_D np)]
        exact at_D
      · rw [List.length_map] at len
        omega

/-! ### a draw -/
def spTake : Sp := fun vs H Q _ => ∃ (b : Addr) (many : Int), vs = [.ref b, .int many] ∧ BagAt H b ∧ 0 < many ∧ many < 1073741824 ∧ ∀ H' v, But b H H' → BagAt H' b → 0 ≤ v → v < many → Q (.int v) H'
theorem at4 (a b c d : V) : atI [a, b, c, d] 0 = some a ∧ atI [a, b, c, d] 1 = some b ∧ atI [a, b, c, d] 2 = some c ∧ atI [a, b, c, d] 3 = some d := ⟨rfl, rfl, rfl, rfl⟩
theorem bag_apart {H : Hp} {b c : Addr} {x y z : Int} {ns : List Int} (hb : H b = some (.lst [.int x, .int y, .int z, .ref c])) (hc : H c = some (.lst (ns.map V.int))) : c ≠ b := by
  refine ne_of hc hb fun e => ?_
  have e1 : ns.map V.int = [.int x, .int y, .int z, .ref c] := by injection e
  have m : V.ref c ∈ ns.map V.int := by
    rw [e1]
    simp
  obtain ⟨n, _, no⟩ := List.mem_map.mp m
  cases no
theorem first_int (ms : List Int) : ∃ k, atI (ms.map V.int ++ [V.int 0]) 0 = some (V.int k) := by
  cases ms with
  | nil => exact ⟨0, rfl⟩
  | cons m ms => exact ⟨m, atI_nat (j := 0) rfl⟩
theorem ok_take {f : Addr} {fd : FuncData} (F : Fun K "_law_take" "_law_take" sTake f fd) (mi : mg "int" = none) : FnOk P w K mg base CX0 1 f fd ["bag", "many"] spTake := by
  refine F.ok scTake (fun vs H Q E h => ?_) (fun cdv A outer s H vs Q E hr h => ?_)
  · obtain ⟨b, m, rfl, _⟩ := h
    rfl
  · obtain ⟨b, many, rfl, ⟨x, y, z, c, ns, at_b, at_c, few⟩, pos, low, q⟩ := h
    have nd := scTake.nd
    refine ⟨_, pss_cut (ps_if (pt_cmpR op_eq (pe_ix ix_list (pv 0) pe_int (fun _ _ => rfl)) pe_int (nomark _))
        (pss_cons (ps_set (i := 2) nd rfl (Or.inl rfl) (pe_ix ix_list (pe_op op_cat (pe_slice sl_list (pe_ix ix_list (pv 0) pe_int (fun _ _ => rfl)) (po_some (pe_ix ix_list (pv 0) pe_int (fun _ _ => rfl))) po_none) (pe_lst (pa_cons pe_int pa_nil))) pe_int (fun _ _ => rfl)))
        (pss_cons (ps_augS (pv 0) pe_int get_list pe_int ip_add set_list)
        (pss_cut (ps_if (pt_cmpR op_ge (pv 2) (pe_op op_pow pe_int pe_int) (nomark _)) (pss_one (ps_asg (pv 2) (pg_sub (pv 0) pe_int set_list))) pss_nil)
        (pss_cons (ps_set (i := 3) nd rfl (Or.inl rfl) (pe_op op_add (pe_op op_add (pe_op op_mul (pe_ix ix_list (pv 0) pe_int (fun _ _ => rfl)) pe_int)
            (pe_op op_mod (pe_callTy call_int1 (by rfl) mi (by decide +kernel) (pa_cons (pv 2) pa_nil)) pe_int)) (pe_op op_mul pe_int (pe_ix ix_list (pv 0) pe_int (fun _ _ => rfl)))))
        (pss_one (ps_asg (pe_op op_mod (pe_callTy call_int1 (by rfl) mi (by decide +kernel) (pa_cons (pv 3) pa_nil)) pe_int) (pg_sub (pv 0) pe_int set_list)))))))
        pss_nil)
      (pss_cons (ps_if (pt_cmpR op_gt (pe_ix ix_list (pv 0) pe_int (fun _ _ => rfl)) pe_int (nomark _))
        (pss_cons (ps_set (i := 4) nd rfl (Or.inl rfl) (pe_op op_mod (pe_callTy call_int1 (by rfl) mi (by decide +kernel) (pa_cons (pe_ix ix_list (pv 0) pe_int (fun _ _ => rfl)) pa_nil)) (pv 1)))
        (pss_cons (ps_asg (pe_op op_fdiv (pe_callTy call_int1 (by rfl) mi (by decide +kernel) (pa_cons (pe_ix ix_list (pv 0) pe_int (fun _ _ => rfl)) pa_nil)) (pv 1)) (pg_sub (pv 0) pe_int set_list))
        (pss_one (ps_ret (pv 4))))) pss_nil)
      (pss_cons (ps_set (i := 5) nd rfl (Or.inl rfl) (pe_op op_mod (pe_callTy call_int1 (by rfl) mi (by decide +kernel) (pa_cons (pe_op op_mul (pe_op op_add (pe_ix ix_list (pv 0) pe_int (fun _ _ => rfl)) pe_int) pe_int) pa_nil)) pe_int))
      (pss_cons (ps_set (i := 6) nd rfl (Or.inl rfl) (pe_op op_mod (pe_callTy call_int1 (by rfl) mi (by decide +kernel) (pa_cons (pe_op op_mul (pe_op op_mod (pe_callTy call_int1 (by rfl) mi (by decide +kernel) (pa_cons (pe_op op_mul (pv 5) (pv 5)) pa_nil)) pe_int) pe_int) pa_nil)) pe_int))
      (pss_one (ps_ret (pe_op op_mod (pe_callTy call_int1 (by rfl) mi (by decide +kernel) (pa_cons (pe_op op_fdiv (pv 6) pe_int) pa_nil)) (pv 1))))))), ?_⟩
    have cb : c ≠ b := bag_apart at_b at_c
    refine ⟨fun σ' H' => ∃ (x y z : Int) (s2 s3 s4 s5 s6 : Option V), σ' = [some (.ref b), some (.int many), s2, s3, s4, s5, s6] ∧ H' b = some (.lst [.int x, .int y, .int z, .ref c]) ∧ But b H H', ?_, ?_⟩
    · -- if bag[0] == 0
      refine ⟨_, rfl, b, _, 0, _, rfl, rfl, SqL.of at_b, rfl, rfl, _, rfl, ?_⟩
      refine ite2 (fun _ => ?_) (fun _ => ⟨x, y, z, none, none, none, none, none, rfl, at_b, But.refl b H⟩)
      obtain ⟨ms, cut, small⟩ := cut_ints ns (some z) none
      obtain ⟨k, first⟩ := first_int ms
      refine ⟨_, rfl, b, _, 3, _, rfl, rfl, SqL.of at_b, rfl, _, rfl, b, _, 2, _, rfl, rfl, SqL.of at_b, rfl, z, rfl, c, ns.map V.int, rfl, SqL.of at_c, fun p np => ?_⟩
      rw [cut]
      refine ⟨len_line (by show 1 ≤ 100000; decide), fun p2 np2 => ?_⟩
      have pp : p ≠ p2 := ne_of_none (upd_same (H := H) (a := p)) np2
      refine ⟨p, p2, ms.map V.int, _, rfl, rfl, by rw [upd_ne pp, upd_same], upd_same, len_line (by simp; omega), fun p3 np3 => ?_⟩
      refine ⟨p3, _, 0, .int k, rfl, rfl, SqL.of upd_same, first, ?_⟩
      have s3 := ((same_new (o := .lst (ms.map V.int)) np).trans (same_new (o := .lst [V.int 0]) np2)).trans (same_new (o := .lst (ms.map V.int ++ [V.int 0])) np3)
      revert s3
      generalize upd (upd (upd H p (.lst (ms.map V.int))) p2 (.lst [V.int 0])) p3 (.lst (ms.map V.int ++ [V.int 0])) = H3
      intro s3
      -- bag[2] += 1
      refine ⟨_, rfl, b, _, 2, _, rfl, rfl, SqL.of (s3 _ _ at_b), rfl, z, 1, rfl, rfl, b, _, 2, 2, rfl, rfl, s3 _ _ at_b, rfl, ?_⟩
      refine ⟨fun σ' H' => ∃ x : Int, σ' = [some (.ref b), some (.int many), some (.int k), none, none, none, none] ∧ H' b = some (.lst [.int x, .int y, .int (z + 1), .ref c]) ∧ But b H H', ?_, ?_⟩
      · refine ⟨_, rfl, 10, 18, rfl, rfl, ⟨by decide, by decide, by decide⟩, _, _, rfl, rfl, _, rfl, ?_⟩
        refine ite2 (fun _ => ?_) (fun _ => ⟨x, rfl, upd_same, (But.of s3).upd at_b⟩)
        exact ⟨_, rfl, _, rfl, b, _, 0, 0, rfl, rfl, upd_same, rfl, k, rfl, upd_same, ((But.of s3).upd (i' := x) (j' := y) (k' := z + 1) at_b).upd at_b⟩
      · rintro _ H4 ⟨x4, rfl, at4b, but4⟩
        refine ⟨_, rfl, b, _, 1, _, rfl, rfl, SqL.of at4b, rfl, _, _, rfl, rfl, .inr ⟨by decide, by decide⟩, _, rfl, .inl ⟨k, rfl, ?_⟩⟩
        refine ⟨_, _, rfl, rfl, (by show (0 : Int) < 2147483647; decide), _, _, rfl, rfl, ?_⟩
        refine ⟨_, rfl, b, _, 2, _, rfl, rfl, SqL.of at4b, rfl, _, _, rfl, rfl, .inl ⟨by decide, by decide⟩, _, _, rfl, rfl, ?_⟩
        refine ⟨_, rfl, .inl ⟨_, rfl, ?_⟩⟩
        refine ⟨_, _, rfl, rfl, (by show (0 : Int) < 2147483647; decide), _, rfl, b, _, 1, 1, rfl, rfl, at4b, rfl, ?_⟩
        exact ⟨x4, _, z + 1, _, _, none, none, none, rfl, upd_same, but4.upd at_b⟩
    · rintro _ H1 ⟨x1, y1, z1, s2, s3, s4, s5, s6, rfl, at1, but1⟩
      have at_c1 : ∀ {G : Hp}, But b H G → G c = some (.lst (ns.map V.int)) := fun h => h.1 _ _ cb at_c
      refine ⟨_, rfl, b, _, 0, _, rfl, rfl, SqL.of at1, rfl, _, _, rfl, rfl, _, rfl, ?_⟩
      refine ite2 (fun _ => ?_) (fun _ => ?_)
      · refine ⟨_, rfl, b, _, 0, _, rfl, rfl, SqL.of at1, rfl, .inl ⟨_, rfl, _, rfl, _, _, rfl, rfl, pos, ?_⟩⟩
        refine ⟨_, rfl, b, _, 0, _, rfl, rfl, SqL.of at1, rfl, .inl ⟨_, rfl, _, rfl, _, _, rfl, rfl, ⟨pos, low⟩, ?_⟩⟩
        refine ⟨_, rfl, b, _, 0, 0, rfl, rfl, at1, rfl, _, rfl, ?_⟩
        exact q _ _ (but1.upd at_b) ⟨_, y1, z1, c, ns, upd_same, at_c1 (but1.upd (i' := x1 / many) (j' := y1) (k' := z1) at_b), few⟩ (Int.emod_nonneg _ (by omega)) (Int.emod_lt_of_pos _ pos)
      · refine ⟨_, rfl, b, _, 1, _, rfl, rfl, SqL.of at1, rfl, _, _, rfl, rfl, _, _, rfl, rfl, .inr ⟨by decide, by decide⟩, .inl ⟨_, rfl, ?_⟩⟩
        have p1 : (0 : Int) < 1000000007 := by decide
        have p2 : (0 : Int) < 998244353 := by decide
        refine ⟨_, _, rfl, rfl, p1, ?_⟩
        have l1 := Int.emod_nonneg ((y1 + 1) * 39373) (b := 1000000007) (by decide)
        have l2 := Int.emod_lt_of_pos ((y1 + 1) * 39373) p1
        refine ⟨_, rfl, _, rfl, _, _, rfl, rfl, .inl ⟨by omega, by omega⟩, .inl ⟨_, rfl, _, _, rfl, rfl, p2, _, _, rfl, rfl, .inr ⟨by decide, by decide⟩, .inl ⟨_, rfl, _, _, rfl, rfl, p2, ?_⟩⟩⟩
        refine ⟨_, rfl, _, _, rfl, rfl, ⟨by decide, by decide⟩, .inl ⟨_, rfl, _, rfl, _, _, rfl, rfl, pos, ?_⟩⟩
        exact q _ _ but1 ⟨x1, y1, z1, c, ns, at1, at_c1 but1, few⟩ (Int.emod_nonneg _ (by omega)) (Int.emod_lt_of_pos _ pos)

/-! ### where a def stands -/
structure At (K : PySem.W.Frag) (mg : Str → Option Value) (x : Str) (st : Stmt) (ps : List Str) (f : Addr) (fd : FuncData) : Prop where
  fn : Fun K x x st f fd
  b : Binds K fd ps []
  g : mg x = some (.ref f)
theorem But.rd {b p : Addr} {H H' : Hp} {u : HO} (x : But b H H') (n : p ≠ b) (h : Rd H p u) : Rd H' p u := by
  rcases h with h | ⟨o, h⟩
  · exact .inl (x.1 _ _ n h)
  · exact .inr ⟨o, x.1 _ _ n h⟩
theorem But.l {b p : Addr} {H H' : Hp} {xs : List V} (x : But b H H') (n : p ≠ b) (h : SqL K H p xs) : SqL K H' p xs := by
  rcases h with h | h
  · exact .inl (x.rd n h)
  · exact .inr h
theorem But.t {b p : Addr} {H H' : Hp} {xs : List V} (x : But b H H') (n : p ≠ b) (h : SqT K H p xs) : SqT K H' p xs := by
  rcases h with h | h
  · exact .inl (x.rd n h)
  · exact .inr h
/-! ### one of some things -/
def spSome (K : PySem.W.Frag) : Sp := fun vs H Q _ => ∃ (b p : Addr) (xs : List V), vs = [.ref b, .ref p] ∧ BagAt H b ∧ (SqL K H p xs ∨ SqT K H p xs) ∧ p ≠ b ∧ 0 < xs.length ∧ xs.length < 1073741824 ∧
  ∀ H' v, v ∈ xs → But b H H' → BagAt H' b → Q v H'
theorem ok_some {f fT : Addr} {fd fdT : FuncData} (F : At K mg "_law_some" sSome ["bag", "things"] f fd) (T : At K mg "_law_take" sTake ["bag", "many"] fT fdT) (mi : mg "int" = none) (ml : mg "len" = none) :
    FnOk P w K mg base CX0 2 f fd ["bag", "things"] (spSome K) := by
  have GT : FnOk P w K mg base CX0 1 fT fdT ["bag", "many"] spTake := ok_take T.fn mi
  refine F.fn.ok scSome (fun vs H Q E h => ?_) (fun cdv A outer s H vs Q E hr h => ?_)
  · obtain ⟨b, p, xs, rfl, _⟩ := h
    rfl
  · obtain ⟨b, p, xs, rfl, bag, there, apart, pos, low, q⟩ := h
    refine ⟨_, pss_one (ps_ret (pe_ix (ix_list.or ix_tup) (pv 1) (pe_call GT hr (by rfl) T.g T.fn.kp T.b .nil pass0 (pa_cons (pv 0) (pa_cons (pe_callB call_len_seq (by rfl) ml PySem.boot_len (pa_cons (pv 1) pa_nil)) pa_nil))) (fun _ _ => rfl))), ?_⟩
    refine ⟨_, rfl, _, rfl, _, rfl, p, xs, rfl, there, b, _, rfl, bag, by omega, by omega, fun H' v but bag' lo hi => ?_⟩
    obtain ⟨n, rfl⟩ := Int.eq_ofNat_of_zero_le lo
    have lt : n < xs.length := by omega
    rcases there with t | t
    · exact .inl ⟨p, xs, _, xs[n], rfl, rfl, but.l apart t, atI_nat (by simp [lt]), q H' _ (List.getElem_mem lt) but bag'⟩
    · exact .inr ⟨p, xs, _, xs[n], rfl, rfl, but.t apart t, atI_nat (by simp [lt]), q H' _ (List.getElem_mem lt) but bag'⟩
/-! ### alike -/
theorem scAlike : FnScope ["found", "due"] ["found", "due"] (defScope sAlike) := ⟨rfl, rfl, rfl, by decide +kernel, rfl, by decide +kernel, by decide +kernel⟩
def spAlike (K : PySem.W.Frag) : Sp := fun vs H Q _ => ∃ (x y : V) (d : PyData), vs = [x, y] ∧ Dat K H x d ∧ Dat K H y d ∧ Shows d ∧ d.depth ≤ 60 ∧ Q (.bl true) H
theorem ok_alike {f : Addr} {fd : FuncData} (F : At K mg "_law_alike" sAlike ["found", "due"] f fd) (mr : mg "repr" = none) : FnG P w K mg base 1 f fd ["found", "due"] (spAlike K) := by
  refine okG F.fn scAlike (fun vs H Q E h => ?_) (fun cdv A outer s H vs Q E hr gd h => ?_)
  · obtain ⟨x, y, d, rfl, _⟩ := h
    rfl
  · obtain ⟨x, y, d, rfl, dx, dy, sh, deep, q⟩ := h
    refine ⟨_, pss_one (ps_ret (pe_and (pe_cmpR (op_eqDat hr.units) (pv 0) (pv 1) (nomark _)) (pe_one (pe_cmpR op_eq (pe_callB (call_reprD hr.units gd) (by rfl) mr (by decide +kernel) (pa_cons (pv 0) pa_nil))
      (pe_callB (call_reprD hr.units gd) (by rfl) mr (by decide +kernel) (pa_cons (pv 1) pa_nil)) (nomark _))))), ?_⟩
    refine ⟨_, rfl, _, rfl, d, dx, dy, deep, _, rfl, iteT ⟨_, rfl, x, d, rfl, dx, sh, deep, _, rfl, y, d, rfl, dy, sh, deep, rfl, ?_⟩⟩
    have e : decide (V.str d.shown = V.str d.shown) = true := decide_eq_true rfl
    rw [e]
    exact q
end
end K14

namespace K14
open PySem PySem.Spec PyProof.Rows L2 Vd Pd Cm
abbrev s_names_of : Stmt := topS 1
abbrev s_start_of : Stmt := topS 3
abbrev s_end_of : Stmt := topS 4
abbrev s_growth_of : Stmt := topS 5
abbrev s_does_end : Stmt := topS 6
abbrev s_is_tuple_of : Stmt := topS 8
abbrev s_is_integer : Stmt := topS 9
abbrev s_is_count : Stmt := topS 10
abbrev s_is_name : Stmt := topS 11
abbrev s_is_arc : Stmt := topS 12
abbrev s_is_way : Stmt := topS 14
abbrev s_is_walk : Stmt := topS 15
abbrev s_end_of_way : Stmt := topS 16
abbrev s_indexes : Stmt := topS 17
abbrev s_index_of : Stmt := topS 18
abbrev s_ended : Stmt := topS 19
abbrev s__law_bag : Stmt := topS 21
abbrev s__law_take : Stmt := topS 22
abbrev s__law_some : Stmt := topS 23
abbrev s__law_mixed : Stmt := topS 24
abbrev s__law_alike : Stmt := topS 25
abbrev s__law_is_int : Stmt := topS 26
abbrev s__law_names : Stmt := topS 27
abbrev s__law_arcs : Stmt := topS 28
abbrev s__law_is_live : Stmt := topS 29
abbrev s__law_purses : Stmt := topS 30
abbrev s__law_first : Stmt := topS 31
abbrev s__law_web : Stmt := topS 32
abbrev s__law_hall : Stmt := topS 33
abbrev s__law_line : Stmt := topS 34
abbrev s__law_tree : Stmt := topS 35
abbrev s__law_way : Stmt := topS 36
abbrev s__law_home : Stmt := topS 37
abbrev s__law_walk : Stmt := topS 38
abbrev s__law_odd : Stmt := topS 39
abbrev s__law_bent : Stmt := topS 40
abbrev s__law_is_arc : Stmt := topS 41
abbrev s__law_end : Stmt := topS 42
abbrev s__law_growth : Stmt := topS 43
abbrev s__law_is_way : Stmt := topS 44
abbrev s__law_met : Stmt := topS 45
abbrev s__law_is_walk : Stmt := topS 46
abbrev s__law_indexes : Stmt := topS 47
abbrev s__law_ended : Stmt := topS 48
abbrev s__law_any_hall : Stmt := topS 49
abbrev s__law_near_way : Stmt := topS 50
abbrev s_law : Stmt := topS 51
structure Txt (K : PySem.W.Frag) (mg : Str → Option Value) where
  fF_names_of : Addr
  dF_names_of : FuncData
  fF_start_of : Addr
  dF_start_of : FuncData
  fF_end_of : Addr
  dF_end_of : FuncData
  fF_growth_of : Addr
  dF_growth_of : FuncData
  fF_does_end : Addr
  dF_does_end : FuncData
  fF_is_tuple_of : Addr
  dF_is_tuple_of : FuncData
  fF_is_integer : Addr
  dF_is_integer : FuncData
  fF_is_count : Addr
  dF_is_count : FuncData
  fF_is_name : Addr
  dF_is_name : FuncData
  fF_is_arc : Addr
  dF_is_arc : FuncData
  fF_is_way : Addr
  dF_is_way : FuncData
  fF_is_walk : Addr
  dF_is_walk : FuncData
  fF_end_of_way : Addr
  dF_end_of_way : FuncData
  fF_indexes : Addr
  dF_indexes : FuncData
  fF_index_of : Addr
  dF_index_of : FuncData
  fF_ended : Addr
  dF_ended : FuncData
  fF_law_bag : Addr
  dF_law_bag : FuncData
  fF_law_take : Addr
  dF_law_take : FuncData
  fF_law_some : Addr
  dF_law_some : FuncData
  fF_law_mixed : Addr
  dF_law_mixed : FuncData
  fF_law_alike : Addr
  dF_law_alike : FuncData
  fF_law_is_int : Addr
  dF_law_is_int : FuncData
  fF_law_names : Addr
  dF_law_names : FuncData
  fF_law_arcs : Addr
  dF_law_arcs : FuncData
  fF_law_is_live : Addr
  dF_law_is_live : FuncData
  fF_law_purses : Addr
  dF_law_purses : FuncData
  fF_law_first : Addr
  dF_law_first : FuncData
  fF_law_web : Addr
  dF_law_web : FuncData
  fF_law_hall : Addr
  dF_law_hall : FuncData
  fF_law_line : Addr
  dF_law_line : FuncData
  fF_law_tree : Addr
  dF_law_tree : FuncData
  fF_law_way : Addr
  dF_law_way : FuncData
  fF_law_home : Addr
  dF_law_home : FuncData
  fF_law_walk : Addr
  dF_law_walk : FuncData
  fF_law_odd : Addr
  dF_law_odd : FuncData
  fF_law_bent : Addr
  dF_law_bent : FuncData
  fF_law_is_arc : Addr
  dF_law_is_arc : FuncData
  fF_law_end : Addr
  dF_law_end : FuncData
  fF_law_growth : Addr
  dF_law_growth : FuncData
  fF_law_is_way : Addr
  dF_law_is_way : FuncData
  fF_law_met : Addr
  dF_law_met : FuncData
  fF_law_is_walk : Addr
  dF_law_is_walk : FuncData
  fF_law_indexes : Addr
  dF_law_indexes : FuncData
  fF_law_ended : Addr
  dF_law_ended : FuncData
  fF_law_any_hall : Addr
  dF_law_any_hall : FuncData
  fF_law_near_way : Addr
  dF_law_near_way : FuncData
  F_names_of : Pd.At K mg "names_of" s_names_of ["hall"] fF_names_of dF_names_of
  F_start_of : Pd.At K mg "start_of" s_start_of ["hall", "arc"] fF_start_of dF_start_of
  F_end_of : Pd.At K mg "end_of" s_end_of ["hall", "arc"] fF_end_of dF_end_of
  F_growth_of : Pd.At K mg "growth_of" s_growth_of ["hall", "arc"] fF_growth_of dF_growth_of
  F_does_end : Pd.At K mg "does_end" s_does_end ["arc"] fF_does_end dF_does_end
  F_is_tuple_of : Pd.At K mg "is_tuple_of" s_is_tuple_of ["thing", "many"] fF_is_tuple_of dF_is_tuple_of
  F_is_integer : Pd.At K mg "is_integer" s_is_integer ["thing"] fF_is_integer dF_is_integer
  F_is_count : Pd.At K mg "is_count" s_is_count ["thing"] fF_is_count dF_is_count
  F_is_name : Pd.At K mg "is_name" s_is_name ["thing"] fF_is_name dF_is_name
  F_is_arc : Pd.At K mg "is_arc" s_is_arc ["hall", "thing"] fF_is_arc dF_is_arc
  F_is_way : Pd.At K mg "is_way" s_is_way ["hall", "thing"] fF_is_way dF_is_way
  F_is_walk : Pd.At K mg "is_walk" s_is_walk ["hall", "thing"] fF_is_walk dF_is_walk
  F_end_of_way : Pd.At K mg "end_of_way" s_end_of_way ["hall", "way"] fF_end_of_way dF_end_of_way
  F_indexes : Pd.At K mg "indexes" s_indexes ["hall", "way"] fF_indexes dF_indexes
  F_index_of : Pd.At K mg "index_of" s_index_of ["hall", "way"] fF_index_of dF_index_of
  F_ended : Pd.At K mg "ended" s_ended ["hall", "way"] fF_ended dF_ended
  F_law_bag : Pd.At K mg "_law_bag" s__law_bag ["script"] fF_law_bag dF_law_bag
  F_law_take : Pd.At K mg "_law_take" s__law_take ["bag", "many"] fF_law_take dF_law_take
  F_law_some : Pd.At K mg "_law_some" s__law_some ["bag", "things"] fF_law_some dF_law_some
  F_law_mixed : Pd.At K mg "_law_mixed" s__law_mixed ["bag", "things"] fF_law_mixed dF_law_mixed
  F_law_alike : Pd.At K mg "_law_alike" s__law_alike ["found", "due"] fF_law_alike dF_law_alike
  F_law_is_int : Pd.At K mg "_law_is_int" s__law_is_int ["thing"] fF_law_is_int dF_law_is_int
  F_law_names : Pd.At K mg "_law_names" s__law_names ["hall"] fF_law_names dF_law_names
  F_law_arcs : Pd.At K mg "_law_arcs" s__law_arcs ["hall", "name"] fF_law_arcs dF_law_arcs
  F_law_is_live : Pd.At K mg "_law_is_live" s__law_is_live ["hall"] fF_law_is_live dF_law_is_live
  F_law_purses : Pd.At K mg "_law_purses" s__law_purses ["bag", "most"] fF_law_purses dF_law_purses
  F_law_first : Pd.At K mg "_law_first" s__law_first ["bag", "room"] fF_law_first dF_law_first
  F_law_web : Pd.At K mg "_law_web" s__law_web ["bag", "machines", "most"] fF_law_web dF_law_web
  F_law_hall : Pd.At K mg "_law_hall" s__law_hall ["bag", "machines", "most"] fF_law_hall dF_law_hall
  F_law_line : Pd.At K mg "_law_line" s__law_line ["bag", "machines", "most"] fF_law_line dF_law_line
  F_law_tree : Pd.At K mg "_law_tree" s__law_tree ["bag", "machines", "most"] fF_law_tree dF_law_tree
  F_law_way : Pd.At K mg "_law_way" s__law_way ["bag", "hall", "many"] fF_law_way dF_law_way
  F_law_home : Pd.At K mg "_law_home" s__law_home ["hall", "name"] fF_law_home dF_law_home
  F_law_walk : Pd.At K mg "_law_walk" s__law_walk ["bag", "hall", "many"] fF_law_walk dF_law_walk
  F_law_odd : Pd.At K mg "_law_odd" s__law_odd ["bag"] fF_law_odd dF_law_odd
  F_law_bent : Pd.At K mg "_law_bent" s__law_bent ["bag", "thing", "deep"] fF_law_bent dF_law_bent
  F_law_is_arc : Pd.At K mg "_law_is_arc" s__law_is_arc ["hall", "thing"] fF_law_is_arc dF_law_is_arc
  F_law_end : Pd.At K mg "_law_end" s__law_end ["hall", "name", "arc"] fF_law_end dF_law_end
  F_law_growth : Pd.At K mg "_law_growth" s__law_growth ["hall", "arc"] fF_law_growth dF_law_growth
  F_law_is_way : Pd.At K mg "_law_is_way" s__law_is_way ["hall", "thing"] fF_law_is_way dF_law_is_way
  F_law_met : Pd.At K mg "_law_met" s__law_met ["hall", "way"] fF_law_met dF_law_met
  F_law_is_walk : Pd.At K mg "_law_is_walk" s__law_is_walk ["hall", "thing"] fF_law_is_walk dF_law_is_walk
  F_law_indexes : Pd.At K mg "_law_indexes" s__law_indexes ["hall", "way"] fF_law_indexes dF_law_indexes
  F_law_ended : Pd.At K mg "_law_ended" s__law_ended ["hall", "way"] fF_law_ended dF_law_ended
  F_law_any_hall : Pd.At K mg "_law_any_hall" s__law_any_hall ["bag"] fF_law_any_hall dF_law_any_hall
  F_law_near_way : Pd.At K mg "_law_near_way" s__law_near_way ["bag", "hall", "way"] fF_law_near_way dF_law_near_way
  mabs : mg "abs" = none
  mall : mg "all" = none
  mbool : mg "bool" = none
  mdict : mg "dict" = none
  menumerate : mg "enumerate" = none
  mint : mg "int" = none
  misinstance : mg "isinstance" = none
  mlen : mg "len" = none
  mlist : mg "list" = none
  mmax : mg "max" = none
  mmin : mg "min" = none
  mrange : mg "range" = none
  mrepr : mg "repr" = none
  msorted : mg "sorted" = none
  mstr : mg "str" = none
  mtuple : mg "tuple" = none
  mtype : mg "type" = none
  mzip : mg "zip" = none
  kt_bool : KT K "bool" (isTyX "bool")
  kt_dict : KT K "dict" (isTyX "dict")
  kt_int : KT K "int" (isTyX "int")
  kt_str : KT K "str" (isTyX "str")
  kt_tuple : KT K "tuple" (isTyX "tuple")
section
variable {P : Program} {w : World} {K : PySem.W.Frag} {mg : Str → Option Value} {base : Heap}
theorem sc_names_of : FnScope N_names_of ["hall"] (defScope s_names_of) := ⟨rfl, rfl, rfl, by decide +kernel, rfl, by decide +kernel, by decide +kernel⟩
theorem ok_names_of (T : Txt K mg) : FnOk P w K mg base CX0 1 T.fF_names_of T.dF_names_of ["hall"] (spD K 1 V_names_of) := by
  have nd := sc_names_of.nd
  exact ok_imp (wf := W_names_of) (ok_by T.F_names_of.fn sc_names_of rfl fun cdv A outer s H E hr => ⟨_, (pds_one (pds_ret (g_tuple (rfl) (by rfl) T.mtuple (pda_cons (pd_lc (own := [("machine", 1)]) (g := (gName 1)) (sl := [1]) (wg := (fun r ρ P => asgD 1 r ρ P)) rfl nd (gi_seq (rfl) (g_ix (rfl) (pd_var 0 (pv 0)) pd_int)) (blkOk_by (N := N_names_of) (sc := (defScope s_names_of)) (by decide +kernel)) (fun _ _ _ _ _ => (pg_nm (i := 1) nd rfl (by first | exact Or.inl rfl | exact Or.inr rfl))) (fun _ _ _ _ _ => pdts_nil) (fun _ _ _ _ _ => (g_ix (rfl) (pd_var 1 (pv 1)) pd_int)) (by decide)) pda_nil))))⟩) fun as P _ hv => w_names_of hv
theorem sc_start_of : FnScope N_start_of ["hall", "arc"] (defScope s_start_of) := ⟨rfl, rfl, rfl, by decide +kernel, rfl, by decide +kernel, by decide +kernel⟩
theorem ok_start_of (T : Txt K mg) : FnOk P w K mg base CX0 1 T.fF_start_of T.dF_start_of ["hall", "arc"] (spD K 2 V_start_of) := by
  have nd := sc_start_of.nd
  exact ok_imp (wf := W_start_of) (ok_by T.F_start_of.fn sc_start_of rfl fun cdv A outer s H E hr => ⟨_, (pds_cons (pd_asg (pd_var 1 (pv 1)) (g_tp (rfl) (n := 2) rfl (pdgs_cons (pg_nm (i := 2) nd rfl (by first | exact Or.inl rfl | exact Or.inr rfl)) (pdgs_cons (pg_nm (i := 3) nd rfl (by first | exact Or.inl rfl | exact Or.inr rfl)) pdgs_nil))))
      (pds_cons (pds_if (gt_eq (rfl) hr.units (pd_var 2 (pv 2)) pd_str) (pds_one (pds_ret (pd_var 3 (pv 3)))) pds_nil)
      (pds_one (pds_ret (g_ix (rfl) (g_ix (rfl) (g_ix (rfl) (pd_var 0 (pv 0)) pd_int) (pd_var 3 (pv 3))) (pd_if (gt_eq (rfl) hr.units (pd_var 2 (pv 2)) pd_str) pd_int pd_int))))))⟩) fun as P _ hv => w_start_of hv
theorem sc_end_of : FnScope N_end_of ["hall", "arc"] (defScope s_end_of) := ⟨rfl, rfl, rfl, by decide +kernel, rfl, by decide +kernel, by decide +kernel⟩
theorem ok_end_of (T : Txt K mg) : FnOk P w K mg base CX0 1 T.fF_end_of T.dF_end_of ["hall", "arc"] (spD K 2 V_end_of) := by
  have nd := sc_end_of.nd
  exact ok_imp (wf := W_end_of) (ok_by T.F_end_of.fn sc_end_of rfl fun cdv A outer s H E hr => ⟨_, (pds_cons (pd_asg (pd_var 1 (pv 1)) (g_tp (rfl) (n := 2) rfl (pdgs_cons (pg_nm (i := 2) nd rfl (by first | exact Or.inl rfl | exact Or.inr rfl)) (pdgs_cons (pg_nm (i := 3) nd rfl (by first | exact Or.inl rfl | exact Or.inr rfl)) pdgs_nil))))
      (pds_cons (pds_if (gt_eq (rfl) hr.units (pd_var 2 (pv 2)) pd_str) (pds_one (pds_ret (pd_var 3 (pv 3)))) pds_nil)
      (pds_one (pds_ret (g_ix (rfl) (g_ix (rfl) (g_ix (rfl) (pd_var 0 (pv 0)) pd_int) (pd_var 3 (pv 3))) (pd_if (gt_eq (rfl) hr.units (pd_var 2 (pv 2)) pd_str) pd_int pd_int))))))⟩) fun as P _ hv => w_end_of hv
theorem sc_growth_of : FnScope N_growth_of ["hall", "arc"] (defScope s_growth_of) := ⟨rfl, rfl, rfl, by decide +kernel, rfl, by decide +kernel, by decide +kernel⟩
theorem ok_growth_of (T : Txt K mg) : FnOk P w K mg base CX0 1 T.fF_growth_of T.dF_growth_of ["hall", "arc"] (spD K 2 V_growth_of) := by
  have nd := sc_growth_of.nd
  exact ok_imp (wf := W_growth_of) (ok_by T.F_growth_of.fn sc_growth_of rfl fun cdv A outer s H E hr => ⟨_, (pds_cons (pd_asg (pd_var 1 (pv 1)) (g_tp (rfl) (n := 2) rfl (pdgs_cons (pg_nm (i := 2) nd rfl (by first | exact Or.inl rfl | exact Or.inr rfl)) (pdgs_cons (pg_nm (i := 3) nd rfl (by first | exact Or.inl rfl | exact Or.inr rfl)) pdgs_nil))))
      (pds_cons (pds_if (gt_eq (rfl) hr.units (pd_var 2 (pv 2)) pd_str) (pds_one (pds_ret pd_int)) pds_nil)
      (pds_cons (pd_asg (g_ix (rfl) (g_ix (rfl) (pd_var 0 (pv 0)) pd_int) (pd_var 3 (pv 3))) (g_tp (rfl) (n := 4) rfl (pdgs_cons (pg_nm (i := 4) nd rfl (by first | exact Or.inl rfl | exact Or.inr rfl)) (pdgs_cons (pg_nm (i := 4) nd rfl (by first | exact Or.inl rfl | exact Or.inr rfl)) (pdgs_cons (pg_nm (i := 5) nd rfl (by first | exact Or.inl rfl | exact Or.inr rfl)) (pdgs_cons (pg_nm (i := 6) nd rfl (by first | exact Or.inl rfl | exact Or.inr rfl)) pdgs_nil))))))
      (pds_one (pds_ret (pd_if (gt_eq (rfl) hr.units (pd_var 2 (pv 2)) pd_str) (pd_var 6 (pv 6)) (pd_op od_sub (pd_var 5 (pv 5)) (pd_var 6 (pv 6)))))))))⟩) fun as P _ hv => w_growth_of hv
theorem sc_does_end : FnScope N_does_end ["arc"] (defScope s_does_end) := ⟨rfl, rfl, rfl, by decide +kernel, rfl, by decide +kernel, by decide +kernel⟩
theorem ok_does_end (T : Txt K mg) : FnOk P w K mg base CX0 1 T.fF_does_end T.dF_does_end ["arc"] (spD K 1 V_does_end) := by
  have nd := sc_does_end.nd
  exact ok_imp (wf := W_does_end) (ok_by T.F_does_end.fn sc_does_end rfl fun cdv A outer s H E hr => ⟨_, (pds_one (pds_ret (g_in (rfl) (g_ix (rfl) (pd_var 0 (pv 0)) pd_int) (pd_tup (pda_cons pd_str (pda_cons pd_str pda_nil))) (by rfl))))⟩) fun as P _ hv => w_does_end hv
theorem sc_is_tuple_of : FnScope N_is_tuple_of ["thing", "many"] (defScope s_is_tuple_of) := ⟨rfl, rfl, rfl, by decide +kernel, rfl, by decide +kernel, by decide +kernel⟩
theorem ok_is_tuple_of (T : Txt K mg) : FnOk P w K mg base CX0 1 T.fF_is_tuple_of T.dF_is_tuple_of ["thing", "many"] (spD K 2 V_is_tuple_of) := by
  have nd := sc_is_tuple_of.nd
  exact ok_imp (wf := W_is_tuple_of) (ok_by T.F_is_tuple_of.fn sc_is_tuple_of rfl fun cdv A outer s H E hr => ⟨_, (pds_one (pds_ret (pd_and (pd_isTy (pd_var 0 (pv 0)) (by rfl) T.mtype (by rfl) T.mtuple bo_tuple) (pd_one (g_eq (rfl) hr.units (g_len (rfl) (by rfl) T.mlen (pda_cons (pd_var 0 (pv 0)) pda_nil)) (pd_var 1 (pv 1)))))))⟩) fun as P _ hv => w_is_tuple_of hv
theorem sc_is_integer : FnScope N_is_integer ["thing"] (defScope s_is_integer) := ⟨rfl, rfl, rfl, by decide +kernel, rfl, by decide +kernel, by decide +kernel⟩
theorem ok_is_integer (T : Txt K mg) : FnOk P w K mg base CX0 1 T.fF_is_integer T.dF_is_integer ["thing"] (spD K 1 V_is_integer) := by
  have nd := sc_is_integer.nd
  exact ok_imp (wf := W_is_integer) (ok_by T.F_is_integer.fn sc_is_integer rfl fun cdv A outer s H E hr => ⟨_, (pds_one (pds_ret (pd_isTy (pd_var 0 (pv 0)) (by rfl) T.mtype (by rfl) T.mint bo_int)))⟩) fun as P _ hv => w_is_integer hv
theorem sc_is_count : FnScope N_is_count ["thing"] (defScope s_is_count) := ⟨rfl, rfl, rfl, by decide +kernel, rfl, by decide +kernel, by decide +kernel⟩
theorem ok_is_count (T : Txt K mg) : FnOk P w K mg base CX0 2 T.fF_is_count T.dF_is_count ["thing"] (spD K 1 V_is_count) := by
  have nd := sc_is_count.nd
  exact ok_imp (wf := W_is_count) (ok_by T.F_is_count.fn sc_is_count rfl fun cdv A outer s H E hr => ⟨_, (pds_one (pds_ret (pd_and (g_call (rfl) (ok_is_integer T) (hr.mono (by decide)) (by rfl) T.F_is_integer.g T.F_is_integer.fn.kp T.F_is_integer.b pass0 (pda_cons (pd_var 0 (pv 0)) pda_nil)) (pd_one (pd_cmp od_ge (pd_var 0 (pv 0)) pd_int (nomark _))))))⟩) fun as P _ hv => w_is_count hv
theorem sc_is_name : FnScope N_is_name ["thing"] (defScope s_is_name) := ⟨rfl, rfl, rfl, by decide +kernel, rfl, by decide +kernel, by decide +kernel⟩
theorem ok_is_name (T : Txt K mg) : FnOk P w K mg base CX0 1 T.fF_is_name T.dF_is_name ["thing"] (spD K 1 V_is_name) := by
  have nd := sc_is_name.nd
  exact ok_imp (wf := W_is_name) (ok_by T.F_is_name.fn sc_is_name rfl fun cdv A outer s H E hr => ⟨_, (pds_cons (pds_if (pdw_t (pdw_or (pdt_notTy (pd_var 0 (pv 0)) (by rfl) T.mtype (by rfl) T.mstr bo_str) (pdw_or1 (pdt_not (pdt_chain od_le od_le pd_int (g_len (rfl) (by rfl) T.mlen (pda_cons (pd_var 0 (pv 0)) pda_nil)) pd_int))))) (pds_one (pds_ret pd_bl)) pds_nil)
      (pds_one (pds_ret (g_all (rfl) rfl (by rfl) T.mall (pda_cons (pd_lc (own := [("letter", 1)]) (g := (gName 1)) (sl := [1]) (wg := (fun r ρ P => asgD 1 r ρ P)) rfl nd (gi_seq (rfl) (pd_var 0 (pv 0))) (blkOk_by (N := N_is_name) (sc := (defScope s_is_name)) (by decide +kernel)) (fun _ _ _ _ _ => (pg_nm (i := 1) nd rfl (by first | exact Or.inl rfl | exact Or.inr rfl))) (fun _ _ _ _ _ => pdts_nil) (fun _ _ _ _ _ => (pd_chain od_le od_le pd_str (pd_var 1 (pv 1)) pd_str)) (by decide)) pda_nil)))))⟩) fun as P _ hv => w_is_name hv
theorem sc_is_arc : FnScope N_is_arc ["hall", "thing"] (defScope s_is_arc) := ⟨rfl, rfl, rfl, by decide +kernel, rfl, by decide +kernel, by decide +kernel⟩
theorem ok_is_arc (T : Txt K mg) : FnOk P w K mg base CX0 3 T.fF_is_arc T.dF_is_arc ["hall", "thing"] (spD K 2 V_is_arc) := by
  have nd := sc_is_arc.nd
  exact ok_imp (wf := W_is_arc) (ok_by T.F_is_arc.fn sc_is_arc rfl fun cdv A outer s H E hr => ⟨_, (pds_cons (pds_if (pdw_t (pdw_or (pdt_not (gt_tru (rfl) (g_call (rfl) (ok_is_tuple_of T) (hr.mono (by decide)) (by rfl) T.F_is_tuple_of.g T.F_is_tuple_of.fn.kp T.F_is_tuple_of.b pass0 (pda_cons (pd_var 1 (pv 1)) (pda_cons pd_int pda_nil))))) (pdw_or1 (pdt_notTy (g_ix (rfl) (pd_var 1 (pv 1)) pd_int) (by rfl) T.mtype (by rfl) T.mstr bo_str)))) (pds_one (pds_ret pd_bl)) pds_nil)
      (pds_cons (pd_asg (pd_var 1 (pv 1)) (g_tp (rfl) (n := 2) rfl (pdgs_cons (pg_nm (i := 2) nd rfl (by first | exact Or.inl rfl | exact Or.inr rfl)) (pdgs_cons (pg_nm (i := 3) nd rfl (by first | exact Or.inl rfl | exact Or.inr rfl)) pdgs_nil))))
      (pds_cons (pds_if (gt_eq (rfl) hr.units (pd_var 2 (pv 2)) pd_str) (pds_one (pds_ret (pd_and (g_call (rfl) (ok_is_name T) (hr.mono (by decide)) (by rfl) T.F_is_name.g T.F_is_name.fn.kp T.F_is_name.b pass0 (pda_cons (pd_var 3 (pv 3)) pda_nil)) (pd_one (g_in (rfl) (pd_var 3 (pv 3)) (pd_lc (own := [("machine", 4)]) (g := (gName 4)) (sl := [4]) (wg := (fun r ρ P => asgD 4 r ρ P)) rfl nd (gi_seq (rfl) (g_ix (rfl) (pd_var 0 (pv 0)) pd_int)) (blkOk_by (N := N_is_arc) (sc := (defScope s_is_arc)) (by decide +kernel)) (fun _ _ _ _ _ => (pg_nm (i := 4) nd rfl (by first | exact Or.inl rfl | exact Or.inr rfl))) (fun _ _ _ _ _ => pdts_nil) (fun _ _ _ _ _ => (g_ix (rfl) (pd_var 4 (pv 4)) pd_int)) (by decide)) (by rfl)))))) pds_nil)
      (pds_one (pds_ret (pd_and (g_in (rfl) (pd_var 2 (pv 2)) (pd_tup (pda_cons pd_str (pda_cons pd_str pda_nil))) (by rfl)) (pd_and (g_call (rfl) (ok_is_count T) (hr.mono (by decide)) (by rfl) T.F_is_count.g T.F_is_count.fn.kp T.F_is_count.b pass0 (pda_cons (pd_var 3 (pv 3)) pda_nil)) (pd_one (pd_cmp od_lt (pd_var 3 (pv 3)) (g_len (rfl) (by rfl) T.mlen (pda_cons (g_ix (rfl) (pd_var 0 (pv 0)) pd_int) pda_nil)) (nomark _))))))))))⟩) fun as P _ hv => w_is_arc hv
theorem sc_is_way : FnScope N_is_way ["hall", "thing"] (defScope s_is_way) := ⟨rfl, rfl, rfl, by decide +kernel, rfl, by decide +kernel, by decide +kernel⟩
theorem ok_is_way (T : Txt K mg) : FnOk P w K mg base CX0 4 T.fF_is_way T.dF_is_way ["hall", "thing"] (spD K 2 V_is_way) := by
  have nd := sc_is_way.nd
  exact ok_imp (wf := W_is_way) (ok_by T.F_is_way.fn sc_is_way rfl fun cdv A outer s H E hr => ⟨_, (pds_cons (pds_if (pdt_not (gt_tru (rfl) (g_call (rfl) (ok_is_tuple_of T) (hr.mono (by decide)) (by rfl) T.F_is_tuple_of.g T.F_is_tuple_of.fn.kp T.F_is_tuple_of.b pass0 (pda_cons (pd_var 1 (pv 1)) (pda_cons pd_int pda_nil))))) (pds_one (pds_ret pd_bl)) pds_nil)
      (pds_cons (pd_asg (pd_var 1 (pv 1)) (g_tp (rfl) (n := 2) rfl (pdgs_cons (pg_nm (i := 2) nd rfl (by first | exact Or.inl rfl | exact Or.inr rfl)) (pdgs_cons (pg_nm (i := 3) nd rfl (by first | exact Or.inl rfl | exact Or.inr rfl)) pdgs_nil))))
      (pds_cons (pds_if (pdw_t (pdw_or (pdt_not (gt_tru (rfl) (g_call (rfl) (ok_is_name T) (hr.mono (by decide)) (by rfl) T.F_is_name.g T.F_is_name.fn.kp T.F_is_name.b pass0 (pda_cons (pd_var 2 (pv 2)) pda_nil)))) (pdw_or (gt_notIn (rfl) (pd_var 2 (pv 2)) (g_call (rfl) (ok_names_of T) (hr.mono (by decide)) (by rfl) T.F_names_of.g T.F_names_of.fn.kp T.F_names_of.b pass0 (pda_cons (pd_var 0 (pv 0)) pda_nil)) (by rfl)) (pdw_or1 (pdt_notTy (pd_var 3 (pv 3)) (by rfl) T.mtype (by rfl) T.mtuple bo_tuple))))) (pds_one (pds_ret pd_bl)) pds_nil)
      (pds_cons (pds_if (pdt_not (gt_tru (rfl) (g_all (rfl) rfl (by rfl) T.mall (pda_cons (pd_lc (own := [("arc", 4)]) (g := (gName 4)) (sl := [4]) (wg := (fun r ρ P => asgD 4 r ρ P)) rfl nd (gi_seq (rfl) (pd_var 3 (pv 3))) (blkOk_by (N := N_is_way) (sc := (defScope s_is_way)) (by decide +kernel)) (fun _ _ _ _ _ => (pg_nm (i := 4) nd rfl (by first | exact Or.inl rfl | exact Or.inr rfl))) (fun _ _ _ _ _ => pdts_nil) (fun _ _ _ _ _ => (g_call (rfl) (ok_is_arc T) (hr.mono (by decide)) (by rfl) T.F_is_arc.g T.F_is_arc.fn.kp T.F_is_arc.b pass0 (pda_cons (pd_var 0 (pv 0)) (pda_cons (pd_var 4 (pv 4)) pda_nil)))) (by decide)) pda_nil)))) (pds_one (pds_ret pd_bl)) pds_nil)
      (pds_cons (pd_setD (i := 5) nd rfl (by first | exact Or.inl rfl | exact Or.inr rfl) (g_add (rfl) (pd_lst (pda_cons (pd_var 2 (pv 2)) pda_nil)) (pd_lc (own := [("arc", 4)]) (g := (gName 4)) (sl := [4]) (wg := (fun r ρ P => asgD 4 r ρ P)) rfl nd (gi_seq (rfl) (pd_var 3 (pv 3))) (blkOk_by (N := N_is_way) (sc := (defScope s_is_way)) (by decide +kernel)) (fun _ _ _ _ _ => (pg_nm (i := 4) nd rfl (by first | exact Or.inl rfl | exact Or.inr rfl))) (fun _ _ _ _ _ => pdts_nil) (fun _ _ _ _ _ => (g_call (rfl) (ok_end_of T) (hr.mono (by decide)) (by rfl) T.F_end_of.g T.F_end_of.fn.kp T.F_end_of.b pass0 (pda_cons (pd_var 0 (pv 0)) (pda_cons (pd_var 4 (pv 4)) pda_nil)))) (by decide))))
      (pds_one (pds_ret (g_eq (rfl) hr.units (g_cut (rfl) (pd_var 5 (pv 5)) pdo_none (pdo_some (pd_neg pd_int))) (pd_lc (own := [("arc", 4)]) (g := (gName 4)) (sl := [4]) (wg := (fun r ρ P => asgD 4 r ρ P)) rfl nd (gi_seq (rfl) (pd_var 3 (pv 3))) (blkOk_by (N := N_is_way) (sc := (defScope s_is_way)) (by decide +kernel)) (fun _ _ _ _ _ => (pg_nm (i := 4) nd rfl (by first | exact Or.inl rfl | exact Or.inr rfl))) (fun _ _ _ _ _ => pdts_nil) (fun _ _ _ _ _ => (g_call (rfl) (ok_start_of T) (hr.mono (by decide)) (by rfl) T.F_start_of.g T.F_start_of.fn.kp T.F_start_of.b pass0 (pda_cons (pd_var 0 (pv 0)) (pda_cons (pd_var 4 (pv 4)) pda_nil)))) (by decide))))))))))⟩) fun as P _ hv => w_is_way hv
theorem sc_is_walk : FnScope N_is_walk ["hall", "thing"] (defScope s_is_walk) := ⟨rfl, rfl, rfl, by decide +kernel, rfl, by decide +kernel, by decide +kernel⟩
theorem ok_is_walk (T : Txt K mg) : FnOk P w K mg base CX0 5 T.fF_is_walk T.dF_is_walk ["hall", "thing"] (spD K 2 V_is_walk) := by
  have nd := sc_is_walk.nd
  exact ok_imp (wf := W_is_walk) (ok_by T.F_is_walk.fn sc_is_walk rfl fun cdv A outer s H E hr => ⟨_, (pds_cons (pds_if (pdt_not (gt_tru (rfl) (g_call (rfl) (ok_is_way T) (hr.mono (by decide)) (by rfl) T.F_is_way.g T.F_is_way.fn.kp T.F_is_way.b pass0 (pda_cons (pd_var 0 (pv 0)) (pda_cons (pd_var 1 (pv 1)) pda_nil))))) (pds_one (pds_ret pd_bl)) pds_nil)
      (pds_cons (by first | exact pd_setLcD (i := 2) (own := [("arc", 3)]) (g := (gName 3)) (sl := [3]) (wg := (fun r ρ P => asgD 3 r ρ P)) rfl nd rfl rfl (by rfl) (gi_seq (rfl) (g_ix (rfl) (pd_var 1 (pv 1)) pd_int)) (blkOk_by (N := N_is_walk) (sc := (defScope s_is_walk)) (by decide +kernel)) (fun _ _ _ _ _ => (pg_nm (i := 3) nd rfl (by first | exact Or.inl rfl | exact Or.inr rfl))) (fun _ _ _ _ _ => pdts_nil) (fun _ _ _ _ _ => (g_call (rfl) (ok_end_of T) (hr.mono (by decide)) (by rfl) T.F_end_of.g T.F_end_of.fn.kp T.F_end_of.b pass0 (pda_cons (pd_var 0 (pv 0)) (pda_cons (pd_var 3 (pv 3)) pda_nil)))) (by decide) | exact pd_setD (i := 2) nd rfl (by first | exact Or.inl rfl | exact Or.inr rfl) (pd_lc (own := [("arc", 3)]) (g := (gName 3)) (sl := [3]) (wg := (fun r ρ P => asgD 3 r ρ P)) rfl nd (gi_seq (rfl) (g_ix (rfl) (pd_var 1 (pv 1)) pd_int)) (blkOk_by (N := N_is_walk) (sc := (defScope s_is_walk)) (by decide +kernel)) (fun _ _ _ _ _ => (pg_nm (i := 3) nd rfl (by first | exact Or.inl rfl | exact Or.inr rfl))) (fun _ _ _ _ _ => pdts_nil) (fun _ _ _ _ _ => (g_call (rfl) (ok_end_of T) (hr.mono (by decide)) (by rfl) T.F_end_of.g T.F_end_of.fn.kp T.F_end_of.b pass0 (pda_cons (pd_var 0 (pv 0)) (pda_cons (pd_var 3 (pv 3)) pda_nil)))) (by decide)))
      (pds_one (pds_ret (pd_and (pd_cmp od_gt (g_len (rfl) (by rfl) T.mlen (pda_cons (pd_var 2 (pv 2)) pda_nil)) pd_int (nomark _)) (pd_and (g_eq (rfl) hr.units (g_ix (rfl) (pd_var 2 (pv 2)) (pd_neg pd_int)) (g_ix (rfl) (pd_var 0 (pv 0)) pd_int)) (pd_one (g_notIn (rfl) (g_ix (rfl) (pd_var 0 (pv 0)) pd_int) (g_cut (rfl) (pd_var 2 (pv 2)) pdo_none (pdo_some (pd_neg pd_int))) (by rfl)))))))))⟩) fun as P _ hv => w_is_walk hv
theorem sc_end_of_way : FnScope N_end_of_way ["hall", "way"] (defScope s_end_of_way) := ⟨rfl, rfl, rfl, by decide +kernel, rfl, by decide +kernel, by decide +kernel⟩
theorem ok_end_of_way (T : Txt K mg) : FnOk P w K mg base CX0 2 T.fF_end_of_way T.dF_end_of_way ["hall", "way"] (spD K 2 V_end_of_way) := by
  have nd := sc_end_of_way.nd
  exact ok_imp (wf := W_end_of_way) (ok_by T.F_end_of_way.fn sc_end_of_way rfl fun cdv A outer s H E hr => ⟨_, (pds_cons (pd_asg (pd_var 1 (pv 1)) (g_tp (rfl) (n := 2) rfl (pdgs_cons (pg_nm (i := 2) nd rfl (by first | exact Or.inl rfl | exact Or.inr rfl)) (pdgs_cons (pg_nm (i := 3) nd rfl (by first | exact Or.inl rfl | exact Or.inr rfl)) pdgs_nil))))
      (pds_one (pds_ret (pd_if (gt_tru (rfl) (pd_var 3 (pv 3))) (g_call (rfl) (ok_end_of T) (hr.mono (by decide)) (by rfl) T.F_end_of.g T.F_end_of.fn.kp T.F_end_of.b pass0 (pda_cons (pd_var 0 (pv 0)) (pda_cons (g_ix (rfl) (pd_var 3 (pv 3)) (pd_neg pd_int)) pda_nil))) (pd_var 2 (pv 2))))))⟩) fun as P _ hv => w_end_of_way hv
theorem sc_indexes : FnScope N_indexes ["hall", "way"] (defScope s_indexes) := ⟨rfl, rfl, rfl, by decide +kernel, rfl, by decide +kernel, by decide +kernel⟩
theorem ok_indexes (T : Txt K mg) : FnOk P w K mg base CX0 2 T.fF_indexes T.dF_indexes ["hall", "way"] (spD K 2 V_indexes) := by
  have nd := sc_indexes.nd
  exact ok_imp (wf := W_indexes) (ok_by T.F_indexes.fn sc_indexes rfl fun cdv A outer s H E hr => ⟨_, (pds_cons (pd_setO (i := 2) nd rfl (by first | exact Or.inl rfl | exact Or.inr rfl) (pd_lst (pda_cons pd_int pda_nil)))
      (pds_cons (pds_for PassesOwn.never rfl (gi_seq (rfl) (g_ix (rfl) (pd_var 1 (pv 1)) pd_int)) (pg_nm (i := 3) nd rfl (by first | exact Or.inl rfl | exact Or.inr rfl))
      (pds_one (pd_app (pv 2) (g_add (rfl) (g_ix (rfl) (pd_var 2 (pv 2)) (pd_neg pd_int)) (g_call (rfl) (ok_growth_of T) (hr.mono (by decide)) (by rfl) T.F_growth_of.g T.F_growth_of.fn.kp T.F_growth_of.b pass0 (pda_cons (pd_var 0 (pv 0)) (pda_cons (pd_var 3 (pv 3)) pda_nil)))))))
      (pds_one (pds_ret (g_tuple (rfl) (by rfl) T.mtuple (pda_cons (pd_var 2 (pv 2)) pda_nil))))))⟩) fun as P _ hv => w_indexes hv
theorem sc_index_of : FnScope N_index_of ["hall", "way"] (defScope s_index_of) := ⟨rfl, rfl, rfl, by decide +kernel, rfl, by decide +kernel, by decide +kernel⟩
theorem ok_index_of (T : Txt K mg) : FnOk P w K mg base CX0 3 T.fF_index_of T.dF_index_of ["hall", "way"] (spD K 2 V_index_of) := by
  have nd := sc_index_of.nd
  exact ok_imp (wf := W_index_of) (ok_by T.F_index_of.fn sc_index_of rfl fun cdv A outer s H E hr => ⟨_, (pds_one (pds_ret (g_ix (rfl) (g_call (rfl) (ok_indexes T) (hr.mono (by decide)) (by rfl) T.F_indexes.g T.F_indexes.fn.kp T.F_indexes.b pass0 (pda_cons (pd_var 0 (pv 0)) (pda_cons (pd_var 1 (pv 1)) pda_nil))) (pd_neg pd_int))))⟩) fun as P _ hv => w_index_of hv
theorem sc_ended : FnScope N_ended ["hall", "way"] (defScope s_ended) := ⟨rfl, rfl, rfl, by decide +kernel, rfl, by decide +kernel, by decide +kernel⟩
theorem ok_ended (T : Txt K mg) : FnOk P w K mg base CX0 3 T.fF_ended T.dF_ended ["hall", "way"] (spD K 2 V_ended) := by
  have nd := sc_ended.nd
  exact ok_imp (wf := W_ended) (ok_by T.F_ended.fn sc_ended rfl fun cdv A outer s H E hr => ⟨_, (pds_one (pds_ret (g_tuple (rfl) (by rfl) T.mtuple (pda_cons (pd_lc (own := [("arc", 2), ("index", 3)]) (g := (gSq K 2 (gCons (gName 2) (gCons (gName 3) gNil)))) (sl := ([2] ++ ([3] ++ []))) (wg := (wgTup 2 (wgCons (fun r ρ P => asgD 2 r ρ P) (wgCons (fun r ρ P => asgD 3 r ρ P) wgNil)))) rfl nd (gi_zip (rfl) (by rfl) T.mzip (pda_cons (g_ix (rfl) (pd_var 1 (pv 1)) pd_int) (pda_cons (g_call (rfl) (ok_indexes T) (hr.mono (by decide)) (by rfl) T.F_indexes.g T.F_indexes.fn.kp T.F_indexes.b pass0 (pda_cons (pd_var 0 (pv 0)) (pda_cons (pd_var 1 (pv 1)) pda_nil))) pda_nil))) (blkOk_by (N := N_ended) (sc := (defScope s_ended)) (by decide +kernel)) (fun _ _ _ _ _ => (g_tp (rfl) (n := 2) rfl (pdgs_cons (pg_nm (i := 2) nd rfl (by first | exact Or.inl rfl | exact Or.inr rfl)) (pdgs_cons (pg_nm (i := 3) nd rfl (by first | exact Or.inl rfl | exact Or.inr rfl)) pdgs_nil)))) (fun _ _ _ _ _ => (pdts_one (gt_tru (rfl) (g_call (rfl) (ok_does_end T) (hr.mono (by decide)) (by rfl) T.F_does_end.g T.F_does_end.fn.kp T.F_does_end.b pass0 (pda_cons (pd_var 2 (pv 2)) pda_nil))))) (fun _ _ _ _ _ => (pd_tup (pda_cons (g_call (rfl) (ok_start_of T) (hr.mono (by decide)) (by rfl) T.F_start_of.g T.F_start_of.fn.kp T.F_start_of.b pass0 (pda_cons (pd_var 0 (pv 0)) (pda_cons (pd_var 2 (pv 2)) pda_nil))) (pda_cons (pd_var 3 (pv 3)) pda_nil)))) (by decide)) pda_nil))))⟩) fun as P _ hv => w_ended hv
theorem ok__law_take (T : Txt K mg) : FnOk P w K mg base CX0 1 T.fF_law_take T.dF_law_take ["bag", "many"] (spD K 2 V__law_take) := (ok_take T.F_law_take.fn T.mint).imp fun vs H Q E h => by
  obtain ⟨b, m, P', rfl, bag, ⟨pos, lt, p⟩, fin⟩ := two_bag (i := fun m k => 0 < m ∧ m < 1073741824 ∧ ∀ x, 0 ≤ x → x < m → k x) (fun as P ⟨m, e, a, b, c⟩ => ⟨m, e, a, b, c⟩) h
  exact ⟨b, m, rfl, bag, pos, lt, fun H' v but _ lo hi => fin H' v but (p v lo hi)⟩
theorem sc__law_some : FnScope N__law_some ["bag", "things"] (defScope s__law_some) := ⟨rfl, rfl, rfl, by decide +kernel, rfl, by decide +kernel, by decide +kernel⟩
theorem ok__law_some (T : Txt K mg) : FnOk P w K mg base CX0 2 T.fF_law_some T.dF_law_some ["bag", "things"] (spD K 2 V__law_some) := by
  have nd := sc__law_some.nd
  exact ok_imp (wf := W__law_some) (ok_by T.F_law_some.fn sc__law_some rfl fun cdv A outer s H E hr => ⟨_, (pds_one (pds_ret (g_ix (rfl) (pd_var 1 (pv 1)) (g_call (rfl) (ok__law_take T) (hr.mono (by decide)) (by rfl) T.F_law_take.g T.F_law_take.fn.kp T.F_law_take.b pass0 (pda_cons (pd_var 0 (pv 0)) (pda_cons (g_len (rfl) (by rfl) T.mlen (pda_cons (pd_var 1 (pv 1)) pda_nil)) pda_nil))))))⟩) fun as P _ hv => w__law_some hv
theorem sc__law_mixed : FnScope N__law_mixed ["bag", "things"] (defScope s__law_mixed) := ⟨rfl, rfl, rfl, by decide +kernel, rfl, by decide +kernel, by decide +kernel⟩
theorem ok__law_mixed (T : Txt K mg) : FnOk P w K mg base CX0 2 T.fF_law_mixed T.dF_law_mixed ["bag", "things"] (spD K 2 V__law_mixed) := by
  have nd := sc__law_mixed.nd
  exact ok_imp (wf := W__law_mixed) (ok_by T.F_law_mixed.fn sc__law_mixed rfl fun cdv A outer s H E hr => ⟨_, (pds_cons (pd_setO (i := 2) nd rfl (by first | exact Or.inl rfl | exact Or.inr rfl) (pd_lst pda_nil))
      (pds_cons (pds_for PassesOwn.never rfl (gi_seq (rfl) (pd_var 1 (pv 1))) (pg_nm (i := 3) nd rfl (by first | exact Or.inl rfl | exact Or.inr rfl))
      (pds_one (pd_ins (pv 2) (pda_cons (g_call (rfl) (ok__law_take T) (hr.mono (by decide)) (by rfl) T.F_law_take.g T.F_law_take.fn.kp T.F_law_take.b pass0 (pda_cons (pd_var 0 (pv 0)) (pda_cons (g_add (rfl) (g_len (rfl) (by rfl) T.mlen (pda_cons (pd_var 2 (pv 2)) pda_nil)) pd_int) pda_nil))) (pda_cons (pd_var 3 (pv 3)) pda_nil)))))
      (pds_one (pds_retO (i := 2) (pv 2)))))⟩) fun as P _ hv => w__law_mixed hv
theorem ok__law_alike (T : Txt K mg) : FnG P w K mg base 1 T.fF_law_alike T.dF_law_alike ["found", "due"] (spD K 2 V__law_alike) := fng_imp (ok_alike ⟨T.F_law_alike.fn, T.F_law_alike.b, T.F_law_alike.g⟩ T.mrepr) fun vs H Q E h => by
  obtain ⟨x, y, d, e, P', rfl, dx, dy, ⟨rfl, sh, dp, p⟩, fin⟩ := two_dat (i := fun d e k => d = e ∧ Shows d ∧ d.depth ≤ 60 ∧ k) (fun as P ⟨d, e, a, b, c⟩ => ⟨d, d, e, rfl, a, b, c⟩) h
  exact ⟨x, y, d, rfl, dx, dy, sh, dp, fin p⟩
theorem sc__law_is_int : FnScope N__law_is_int ["thing"] (defScope s__law_is_int) := ⟨rfl, rfl, rfl, by decide +kernel, rfl, by decide +kernel, by decide +kernel⟩
theorem ok__law_is_int (T : Txt K mg) : FnOk P w K mg base CX0 1 T.fF_law_is_int T.dF_law_is_int ["thing"] (spD K 1 V__law_is_int) := by
  have nd := sc__law_is_int.nd
  exact ok_imp (wf := W__law_is_int) (ok_by T.F_law_is_int.fn sc__law_is_int rfl fun cdv A outer s H E hr => ⟨_, (pds_one (pds_ret (pd_and (g_isi (rfl) T.kt_int (pd_var 0 (pv 0)) (by rfl) T.misinstance (by rfl) T.mint bo_int) (pd_one (pd_not (g_isi (rfl) T.kt_bool (pd_var 0 (pv 0)) (by rfl) T.misinstance (by rfl) T.mbool bo_bool))))))⟩) fun as P _ hv => w__law_is_int hv
theorem sc__law_names : FnScope N__law_names ["hall"] (defScope s__law_names) := ⟨rfl, rfl, rfl, by decide +kernel, rfl, by decide +kernel, by decide +kernel⟩
theorem ok__law_names (T : Txt K mg) : FnOk P w K mg base CX0 1 T.fF_law_names T.dF_law_names ["hall"] (spD K 1 V__law_names) := by
  have nd := sc__law_names.nd
  exact ok_imp (wf := W__law_names) (ok_by T.F_law_names.fn sc__law_names rfl fun cdv A outer s H E hr => ⟨_, (pds_one (pds_ret (pd_lc (own := [("machine", 1)]) (g := (gName 1)) (sl := [1]) (wg := (fun r ρ P => asgD 1 r ρ P)) rfl nd (gi_seq (rfl) (g_ix (rfl) (pd_var 0 (pv 0)) pd_int)) (blkOk_by (N := N__law_names) (sc := (defScope s__law_names)) (by decide +kernel)) (fun _ _ _ _ _ => (pg_nm (i := 1) nd rfl (by first | exact Or.inl rfl | exact Or.inr rfl))) (fun _ _ _ _ _ => pdts_nil) (fun _ _ _ _ _ => (g_ix (rfl) (pd_var 1 (pv 1)) pd_int)) (by decide))))⟩) fun as P _ hv => w__law_names hv
theorem sc__law_arcs : FnScope N__law_arcs ["hall", "name"] (defScope s__law_arcs) := ⟨rfl, rfl, rfl, by decide +kernel, rfl, by decide +kernel, by decide +kernel⟩
theorem ok__law_arcs (T : Txt K mg) : FnOk P w K mg base CX0 1 T.fF_law_arcs T.dF_law_arcs ["hall", "name"] (spD K 2 V__law_arcs) := by
  have nd := sc__law_arcs.nd
  exact ok_imp (wf := W__law_arcs) (ok_by T.F_law_arcs.fn sc__law_arcs rfl fun cdv A outer s H E hr => ⟨_, (pds_cons (pd_setO (i := 2) nd rfl (by first | exact Or.inl rfl | exact Or.inr rfl) (pd_lst (pda_cons (pd_tup (pda_cons (pd_tup (pda_cons pd_str (pda_cons (pd_var 1 (pv 1)) pda_nil))) (pda_cons (pd_var 1 (pv 1)) (pda_cons pd_int pda_nil)))) pda_nil)))
      (pds_cons (pd_ext (pv 2) (pd_lc (own := [("at", 3), ("belt", 4)]) (g := (gSq K 2 (gCons (gName 3) (gCons (gName 4) gNil)))) (sl := ([3] ++ ([4] ++ []))) (wg := (wgTup 2 (wgCons (fun r ρ P => asgD 3 r ρ P) (wgCons (fun r ρ P => asgD 4 r ρ P) wgNil)))) rfl nd (gi_enum (rfl) (by rfl) T.menumerate (pda_cons (g_ix (rfl) (pd_var 0 (pv 0)) pd_int) pda_nil)) (blkOk_by (N := N__law_arcs) (sc := (defScope s__law_arcs)) (by decide +kernel)) (fun _ _ _ _ _ => (g_tp (rfl) (n := 2) rfl (pdgs_cons (pg_nm (i := 3) nd rfl (by first | exact Or.inl rfl | exact Or.inr rfl)) (pdgs_cons (pg_nm (i := 4) nd rfl (by first | exact Or.inl rfl | exact Or.inr rfl)) pdgs_nil)))) (fun _ _ _ _ _ => (pdts_one (gt_eq (rfl) hr.units (g_ix (rfl) (pd_var 4 (pv 4)) pd_int) (pd_var 1 (pv 1))))) (fun _ _ _ _ _ => (pd_tup (pda_cons (pd_tup (pda_cons pd_str (pda_cons (pd_var 3 (pv 3)) pda_nil))) (pda_cons (g_ix (rfl) (pd_var 4 (pv 4)) pd_int) (pda_cons (g_ix (rfl) (pd_var 4 (pv 4)) pd_int) pda_nil))))) (by decide)))
      (pds_one (pds_ret (g_add (rfl) (pd_var 2 (pv 2)) (pd_lc (own := [("at", 3), ("belt", 4)]) (g := (gSq K 2 (gCons (gName 3) (gCons (gName 4) gNil)))) (sl := ([3] ++ ([4] ++ []))) (wg := (wgTup 2 (wgCons (fun r ρ P => asgD 3 r ρ P) (wgCons (fun r ρ P => asgD 4 r ρ P) wgNil)))) rfl nd (gi_enum (rfl) (by rfl) T.menumerate (pda_cons (g_ix (rfl) (pd_var 0 (pv 0)) pd_int) pda_nil)) (blkOk_by (N := N__law_arcs) (sc := (defScope s__law_arcs)) (by decide +kernel)) (fun _ _ _ _ _ => (g_tp (rfl) (n := 2) rfl (pdgs_cons (pg_nm (i := 3) nd rfl (by first | exact Or.inl rfl | exact Or.inr rfl)) (pdgs_cons (pg_nm (i := 4) nd rfl (by first | exact Or.inl rfl | exact Or.inr rfl)) pdgs_nil)))) (fun _ _ _ _ _ => (pdts_one (gt_eq (rfl) hr.units (g_ix (rfl) (pd_var 4 (pv 4)) pd_int) (pd_var 1 (pv 1))))) (fun _ _ _ _ _ => (pd_tup (pda_cons (pd_tup (pda_cons pd_str (pda_cons (pd_var 3 (pv 3)) pda_nil))) (pda_cons (g_ix (rfl) (pd_var 4 (pv 4)) pd_int) (pda_cons (pd_op od_sub (g_ix (rfl) (pd_var 4 (pv 4)) pd_int) (g_ix (rfl) (pd_var 4 (pv 4)) pd_int)) pda_nil))))) (by decide)))))))⟩) fun as P _ hv => w__law_arcs hv
theorem sc__law_is_live : FnScope N__law_is_live ["hall"] (defScope s__law_is_live) := ⟨rfl, rfl, rfl, by decide +kernel, rfl, by decide +kernel, by decide +kernel⟩
theorem ok__law_is_live (T : Txt K mg) : FnOk P w K mg base CX0 2 T.fF_law_is_live T.dF_law_is_live ["hall"] (spD K 1 V__law_is_live) := by
  have nd := sc__law_is_live.nd
  exact ok_imp (wf := W__law_is_live) (ok_by T.F_law_is_live.fn sc__law_is_live rfl fun cdv A outer s H E hr => ⟨_, (pds_cons (pd_setD (i := 1) nd rfl (by first | exact Or.inl rfl | exact Or.inr rfl) (g_call (rfl) (ok__law_names T) (hr.mono (by decide)) (by rfl) T.F_law_names.g T.F_law_names.fn.kp T.F_law_names.b pass0 (pda_cons (pd_var 0 (pv 0)) pda_nil)))
      (pds_cons (pds_for PassesOwn.never rfl (gi_rng1 (by rfl) T.mrange (pda_cons (g_len (rfl) (by rfl) T.mlen (pda_cons (pd_var 1 (pv 1)) pda_nil)) pda_nil)) (pg_nm (i := 2) nd rfl (by first | exact Or.inl rfl | exact Or.inr rfl))
      (pds_cons (pd_setO (i := 3) nd rfl (by first | exact Or.inl rfl | exact Or.inr rfl) (pd_lst pda_nil))
      (pds_cons (pds_for PassesOwn.never rfl (gi_seq (rfl) (pd_var 1 (pv 1))) (pg_nm (i := 4) nd rfl (by first | exact Or.inl rfl | exact Or.inr rfl))
      (pds_one (pd_ext (pv 3) (pd_lc (own := [("arc", 5), ("end", 6), ("growth", 7)]) (g := (gSq K 3 (gCons (gName 5) (gCons (gName 6) (gCons (gName 7) gNil))))) (sl := ([5] ++ ([6] ++ ([7] ++ [])))) (wg := (wgTup 3 (wgCons (fun r ρ P => asgD 5 r ρ P) (wgCons (fun r ρ P => asgD 6 r ρ P) (wgCons (fun r ρ P => asgD 7 r ρ P) wgNil))))) rfl nd (gi_seq (rfl) (g_call (rfl) (ok__law_arcs T) (hr.mono (by decide)) (by rfl) T.F_law_arcs.g T.F_law_arcs.fn.kp T.F_law_arcs.b pass0 (pda_cons (pd_var 0 (pv 0)) (pda_cons (pd_var 4 (pv 4)) pda_nil)))) (blkOk_by (N := N__law_is_live) (sc := (defScope s__law_is_live)) (by decide +kernel)) (fun _ _ _ _ _ => (g_tp (rfl) (n := 3) rfl (pdgs_cons (pg_nm (i := 5) nd rfl (by first | exact Or.inl rfl | exact Or.inr rfl)) (pdgs_cons (pg_nm (i := 6) nd rfl (by first | exact Or.inl rfl | exact Or.inr rfl)) (pdgs_cons (pg_nm (i := 7) nd rfl (by first | exact Or.inl rfl | exact Or.inr rfl)) pdgs_nil))))) (fun _ _ _ _ _ => (pdts_one (gt_eq (rfl) hr.units (pd_var 7 (pv 7)) pd_int))) (fun _ _ _ _ _ => (pd_var 6 (pv 6))) (by decide)))))
      (pds_one (by first | exact pd_setLcD (i := 1) (own := [("name", 4)]) (g := (gName 4)) (sl := [4]) (wg := (fun r ρ P => asgD 4 r ρ P)) rfl nd rfl rfl (by rfl) (gi_seq (rfl) (pd_var 1 (pv 1))) (blkOk_by (N := N__law_is_live) (sc := (defScope s__law_is_live)) (by decide +kernel)) (fun _ _ _ _ _ => (pg_nm (i := 4) nd rfl (by first | exact Or.inl rfl | exact Or.inr rfl))) (fun _ _ _ _ _ => (pdts_one (gt_in (rfl) (pd_var 4 (pv 4)) (pd_var 3 (pv 3)) (by rfl)))) (fun _ _ _ _ _ => (pd_var 4 (pv 4))) (by decide) | exact pd_setD (i := 1) nd rfl (by first | exact Or.inl rfl | exact Or.inr rfl) (pd_lc (own := [("name", 4)]) (g := (gName 4)) (sl := [4]) (wg := (fun r ρ P => asgD 4 r ρ P)) rfl nd (gi_seq (rfl) (pd_var 1 (pv 1))) (blkOk_by (N := N__law_is_live) (sc := (defScope s__law_is_live)) (by decide +kernel)) (fun _ _ _ _ _ => (pg_nm (i := 4) nd rfl (by first | exact Or.inl rfl | exact Or.inr rfl))) (fun _ _ _ _ _ => (pdts_one (gt_in (rfl) (pd_var 4 (pv 4)) (pd_var 3 (pv 3)) (by rfl)))) (fun _ _ _ _ _ => (pd_var 4 (pv 4))) (by decide)))))))
      (pds_one (pds_ret (g_eq (rfl) hr.units (pd_var 1 (pv 1)) (pd_lst pda_nil))))))⟩) fun as P _ hv => w__law_is_live hv
theorem sc__law_purses : FnScope N__law_purses ["bag", "most"] (defScope s__law_purses) := ⟨rfl, rfl, rfl, by decide +kernel, rfl, by decide +kernel, by decide +kernel⟩
theorem ok__law_purses (T : Txt K mg) : FnOk P w K mg base CX0 3 T.fF_law_purses T.dF_law_purses ["bag", "most"] (spD K 2 V__law_purses) := by
  have nd := sc__law_purses.nd
  exact ok_imp (wf := W__law_purses) (ok_by T.F_law_purses.fn sc__law_purses rfl fun cdv A outer s H E hr => ⟨_, (pds_cons (pd_setD (i := 2) nd rfl (by first | exact Or.inl rfl | exact Or.inr rfl) (g_call (rfl) (ok__law_some T) (hr.mono (by decide)) (by rfl) T.F_law_some.g T.F_law_some.fn.kp T.F_law_some.b pass0 (pda_cons (pd_var 0 (pv 0)) (pda_cons (pd_lst (pda_cons pd_int (pda_cons pd_int (pda_cons pd_int (pda_cons pd_int (pda_cons pd_int pda_nil)))))) pda_nil))))
      (pds_one (pds_ret (g_tuple (rfl) (by rfl) T.mtuple (pda_cons (pd_lc (own := [("turn", 3)]) (g := (gName 3)) (sl := [3]) (wg := (fun r ρ P => asgD 3 r ρ P)) rfl nd (gi_rng1 (by rfl) T.mrange (pda_cons (pd_var 2 (pv 2)) pda_nil)) (blkOk_by (N := N__law_purses) (sc := (defScope s__law_purses)) (by decide +kernel)) (fun _ _ _ _ _ => (pg_nm (i := 3) nd rfl (by first | exact Or.inl rfl | exact Or.inr rfl))) (fun _ _ _ _ _ => pdts_nil) (fun _ _ _ _ _ => (pd_tup (pda_cons (g_add (rfl) pd_int (g_call (rfl) (ok__law_take T) (hr.mono (by decide)) (by rfl) T.F_law_take.g T.F_law_take.fn.kp T.F_law_take.b pass0 (pda_cons (pd_var 0 (pv 0)) (pda_cons (pd_var 1 (pv 1)) pda_nil)))) (pda_cons (g_call (rfl) (ok__law_some T) (hr.mono (by decide)) (by rfl) T.F_law_some.g T.F_law_some.fn.kp T.F_law_some.b pass0 (pda_cons (pd_var 0 (pv 0)) (pda_cons (pd_lst (pda_cons pd_int (pda_cons pd_int (pda_cons pd_int (pda_cons pd_int (pda_cons pd_int pda_nil)))))) pda_nil))) pda_nil)))) (by decide)) pda_nil)))))⟩) fun as P _ hv => w__law_purses hv
theorem sc__law_first : FnScope N__law_first ["bag", "room"] (defScope s__law_first) := ⟨rfl, rfl, rfl, by decide +kernel, rfl, by decide +kernel, by decide +kernel⟩
theorem ok__law_first (T : Txt K mg) : FnOk P w K mg base CX0 3 T.fF_law_first T.dF_law_first ["bag", "room"] (spD K 2 V__law_first) := by
  have nd := sc__law_first.nd
  exact ok_imp (wf := W__law_first) (ok_by T.F_law_first.fn sc__law_first rfl fun cdv A outer s H E hr => ⟨_, (pds_one (pds_ret (g_call (rfl) (ok__law_some T) (hr.mono (by decide)) (by rfl) T.F_law_some.g T.F_law_some.fn.kp T.F_law_some.b pass0 (pda_cons (pd_var 0 (pv 0)) (pda_cons (pd_lst (pda_cons (pd_var 1 (pv 1)) (pda_cons (pd_var 1 (pv 1)) (pda_cons pd_int (pda_cons (g_call (rfl) (ok__law_take T) (hr.mono (by decide)) (by rfl) T.F_law_take.g T.F_law_take.fn.kp T.F_law_take.b pass0 (pda_cons (pd_var 0 (pv 0)) (pda_cons (g_add (rfl) (pd_var 1 (pv 1)) pd_int) pda_nil))) pda_nil))))) pda_nil)))))⟩) fun as P _ hv => w__law_first hv
theorem sc__law_web : FnScope N__law_web ["bag", "machines", "most"] (defScope s__law_web) := ⟨rfl, rfl, rfl, by decide +kernel, rfl, by decide +kernel, by decide +kernel⟩
theorem ok__law_web (T : Txt K mg) : FnOk P w K mg base CX0 4 T.fF_law_web T.dF_law_web ["bag", "machines", "most"] (spD K 3 V__law_web) := by
  have nd := sc__law_web.nd
  exact ok_imp (wf := W__law_web) (ok_by T.F_law_web.fn sc__law_web rfl fun cdv A outer s H E hr => ⟨_, (pds_cons (pd_setD (i := 3) nd rfl (by first | exact Or.inl rfl | exact Or.inr rfl) (g_cut (rfl) (g_call (rfl) (ok__law_mixed T) (hr.mono (by decide)) (by rfl) T.F_law_mixed.g T.F_law_mixed.fn.kp T.F_law_mixed.b pass0 (pda_cons (pd_var 0 (pv 0)) (pda_cons (pd_lst (pda_cons pd_str (pda_cons pd_str (pda_cons pd_str (pda_cons pd_str (pda_cons pd_str (pda_cons pd_str (pda_cons pd_str (pda_cons pd_str pda_nil))))))))) pda_nil))) pdo_none (pdo_some (pd_var 1 (pv 1)))))
      (pds_cons (pd_parDD (i := 4) (j := 5) rfl nd rfl rfl (by decide) rfl rfl (pda_cons (g_call (rfl) (ok__law_some T) (hr.mono (by decide)) (by rfl) T.F_law_some.g T.F_law_some.fn.kp T.F_law_some.b pass0 (pda_cons (pd_var 0 (pv 0)) (pda_cons (pd_lst (pda_cons pd_str (pda_cons pd_str (pda_cons pd_str pda_nil)))) pda_nil))) (pda_cons (g_add (rfl) pd_int (g_call (rfl) (ok__law_take T) (hr.mono (by decide)) (by rfl) T.F_law_take.g T.F_law_take.fn.kp T.F_law_take.b pass0 (pda_cons (pd_var 0 (pv 0)) (pda_cons pd_int pda_nil)))) pda_nil)) (by rfl))
      (pds_cons (pd_parOOO (i := 6) (j := 7) (l := 8) rfl nd rfl rfl rfl (by decide) (by decide) (by decide) rfl rfl rfl (pda_cons (pd_lst (pda_cons (pd_tup (pda_cons (pd_var 4 (pv 4)) (pda_cons (pd_var 5 (pv 5)) (pda_cons (pd_tup pda_nil) pda_nil)))) pda_nil)) (pda_cons (pd_lst pda_nil) (pda_cons (pd_lst (pda_cons (pd_var 4 (pv 4)) pda_nil)) pda_nil))) (by rfl))
      (pds_cons (pds_for PassesOwn.never rfl (gi_seq (rfl) (pd_var 3 (pv 3))) (pg_nm (i := 9) nd rfl (by first | exact Or.inl rfl | exact Or.inr rfl))
      (pds_cons (pd_setD (i := 10) nd rfl (by first | exact Or.inl rfl | exact Or.inr rfl) (g_add (rfl) pd_int (g_call (rfl) (ok__law_take T) (hr.mono (by decide)) (by rfl) T.F_law_take.g T.F_law_take.fn.kp T.F_law_take.b pass0 (pda_cons (pd_var 0 (pv 0)) (pda_cons (g_add (rfl) (pd_var 5 (pv 5)) (g_int (by rfl) T.mint (pda_cons (g_eq (rfl) hr.units (g_call (rfl) (ok__law_take T) (hr.mono (by decide)) (by rfl) T.F_law_take.g T.F_law_take.fn.kp T.F_law_take.b pass0 (pda_cons (pd_var 0 (pv 0)) (pda_cons pd_int pda_nil))) pd_int) pda_nil))) pda_nil)))))
      (pds_cons (pd_app (pv 6) (pd_tup (pda_cons (pd_var 9 (pv 9)) (pda_cons (pd_var 10 (pv 10)) (pda_cons (g_call (rfl) (ok__law_purses T) (hr.mono (by decide)) (by rfl) T.F_law_purses.g T.F_law_purses.fn.kp T.F_law_purses.b pass0 (pda_cons (pd_var 0 (pv 0)) (pda_cons (pd_var 2 (pv 2)) pda_nil))) pda_nil)))))
      (pds_cons (pd_parDD (i := 12) (j := 13) rfl nd rfl rfl (by decide) rfl rfl (pda_cons (g_add (rfl) pd_int (g_call (rfl) (ok__law_take T) (hr.mono (by decide)) (by rfl) T.F_law_take.g T.F_law_take.fn.kp T.F_law_take.b pass0 (pda_cons (pd_var 0 (pv 0)) (pda_cons pd_int pda_nil)))) (pda_cons (g_call (rfl) (ok__law_some T) (hr.mono (by decide)) (by rfl) T.F_law_some.g T.F_law_some.fn.kp T.F_law_some.b pass0 (pda_cons (pd_var 0 (pv 0)) (pda_cons (pd_var 8 (pv 8)) pda_nil))) pda_nil)) (by rfl))
      (pds_cons (pd_setD (i := 11) nd rfl (by first | exact Or.inl rfl | exact Or.inr rfl) (g_call (rfl) (ok__law_first T) (hr.mono (by decide)) (by rfl) T.F_law_first.g T.F_law_first.fn.kp T.F_law_first.b pass0 (pda_cons (pd_var 0 (pv 0)) (pda_cons (pd_var 12 (pv 12)) pda_nil))))
      (pds_cons (pd_app (pv 7) (pd_if (pdt_cmp od_gt (g_call (rfl) (ok__law_take T) (hr.mono (by decide)) (by rfl) T.F_law_take.g T.F_law_take.fn.kp T.F_law_take.b pass0 (pda_cons (pd_var 0 (pv 0)) (pda_cons pd_int pda_nil))) pd_int (nomark _)) (pd_tup (pda_cons (pd_var 9 (pv 9)) (pda_cons (pd_var 13 (pv 13)) (pda_cons (pd_var 12 (pv 12)) (pda_cons (pd_var 11 (pv 11)) pda_nil))))) (pd_tup (pda_cons (pd_var 13 (pv 13)) (pda_cons (pd_var 9 (pv 9)) (pda_cons (pd_var 12 (pv 12)) (pda_cons (pd_var 11 (pv 11)) pda_nil)))))))
      (pds_one (pd_app (pv 8) (pd_var 9 (pv 9))))))))))
      (pds_cons (pds_for PassesOwn.never rfl (gi_rng1 (by rfl) T.mrange (pda_cons (pd_if (pdt_cmp od_gt (pd_var 1 (pv 1)) pd_int (nomark _)) (g_call (rfl) (ok__law_some T) (hr.mono (by decide)) (by rfl) T.F_law_some.g T.F_law_some.fn.kp T.F_law_some.b pass0 (pda_cons (pd_var 0 (pv 0)) (pda_cons (pd_lst (pda_cons pd_int (pda_cons pd_int (pda_cons pd_int (pda_cons pd_int pda_nil))))) pda_nil))) pd_int) pda_nil)) (pg_nm (i := 14) nd rfl (by first | exact Or.inl rfl | exact Or.inr rfl))
      (pds_cons (pd_asg (g_cut (rfl) (g_call (rfl) (ok__law_mixed T) (hr.mono (by decide)) (by rfl) T.F_law_mixed.g T.F_law_mixed.fn.kp T.F_law_mixed.b pass0 (pda_cons (pd_var 0 (pv 0)) (pda_cons (pd_var 8 (pv 8)) pda_nil))) pdo_none (pdo_some pd_int)) (g_tp (rfl) (n := 2) rfl (pdgs_cons (pg_nm (i := 15) nd rfl (by first | exact Or.inl rfl | exact Or.inr rfl)) (pdgs_cons (pg_nm (i := 16) nd rfl (by first | exact Or.inl rfl | exact Or.inr rfl)) pdgs_nil))))
      (pds_cons (pd_setD (i := 12) nd rfl (by first | exact Or.inl rfl | exact Or.inr rfl) (g_add (rfl) pd_int (g_call (rfl) (ok__law_take T) (hr.mono (by decide)) (by rfl) T.F_law_take.g T.F_law_take.fn.kp T.F_law_take.b pass0 (pda_cons (pd_var 0 (pv 0)) (pda_cons pd_int pda_nil)))))
      (pds_one (pd_app (pv 7) (pd_tup (pda_cons (pd_var 15 (pv 15)) (pda_cons (pd_var 16 (pv 16)) (pda_cons (pd_var 12 (pv 12)) (pda_cons (g_call (rfl) (ok__law_first T) (hr.mono (by decide)) (by rfl) T.F_law_first.g T.F_law_first.fn.kp T.F_law_first.b pass0 (pda_cons (pd_var 0 (pv 0)) (pda_cons (pd_var 12 (pv 12)) pda_nil))) pda_nil))))))))))
      (pds_one (pds_ret (pd_tup (pda_cons (g_tuple (rfl) (by rfl) T.mtuple (pda_cons (g_sortN (rfl) (by rfl) T.msorted (pda_cons (pd_var 6 (pv 6)) pda_nil)) pda_nil)) (pda_cons (g_tuple (rfl) (by rfl) T.mtuple (pda_cons (g_call (rfl) (ok__law_mixed T) (hr.mono (by decide)) (by rfl) T.F_law_mixed.g T.F_law_mixed.fn.kp T.F_law_mixed.b pass0 (pda_cons (pd_var 0 (pv 0)) (pda_cons (pd_var 7 (pv 7)) pda_nil))) pda_nil)) (pda_cons (pd_var 4 (pv 4)) pda_nil)))))))))))⟩) fun as P _ hv => w__law_web hv
theorem sc__law_hall : FnScope N__law_hall ["bag", "machines", "most"] (defScope s__law_hall) := ⟨rfl, rfl, rfl, by decide +kernel, rfl, by decide +kernel, by decide +kernel⟩
theorem ok__law_hall (T : Txt K mg) : FnOk P w K mg base CX0 5 T.fF_law_hall T.dF_law_hall ["bag", "machines", "most"] (spD K 3 V__law_hall) := by
  have nd := sc__law_hall.nd
  exact ok_imp (wf := W__law_hall) (ok_by T.F_law_hall.fn sc__law_hall rfl fun cdv A outer s H E hr => ⟨_, (pds_cons (pd_setD (i := 3) nd rfl (by first | exact Or.inl rfl | exact Or.inr rfl) (g_call (rfl) (ok__law_web T) (hr.mono (by decide)) (by rfl) T.F_law_web.g T.F_law_web.fn.kp T.F_law_web.b pass0 (pda_cons (pd_var 0 (pv 0)) (pda_cons (pd_var 1 (pv 1)) (pda_cons (pd_var 2 (pv 2)) pda_nil)))))
      (pds_cons (pds_if (gt_tru (rfl) (g_call (rfl) (ok__law_is_live T) (hr.mono (by decide)) (by rfl) T.F_law_is_live.g T.F_law_is_live.fn.kp T.F_law_is_live.b pass0 (pda_cons (pd_var 3 (pv 3)) pda_nil))) (pds_one (pds_ret (pd_var 3 (pv 3)))) pds_nil)
      (pds_cons (pd_setO (i := 4) nd rfl (by first | exact Or.inl rfl | exact Or.inr rfl) (pd_lst pda_nil))
      (pds_cons (pds_for PassesOwn.never rfl (gi_seq (rfl) (g_ix (rfl) (pd_var 3 (pv 3)) pd_int)) (g_tp (rfl) (n := 4) rfl (pdgs_cons (pg_nm (i := 5) nd rfl (by first | exact Or.inl rfl | exact Or.inr rfl)) (pdgs_cons (pg_nm (i := 6) nd rfl (by first | exact Or.inl rfl | exact Or.inr rfl)) (pdgs_cons (pg_nm (i := 7) nd rfl (by first | exact Or.inl rfl | exact Or.inr rfl)) (pdgs_cons (pg_nm (i := 8) nd rfl (by first | exact Or.inl rfl | exact Or.inr rfl)) pdgs_nil)))))
      (pds_cons (pd_setD (i := 7) nd rfl (by first | exact Or.inl rfl | exact Or.inr rfl) (g_max2 rfl (by rfl) T.mmax (pda_cons pd_int (pda_cons (pd_var 7 (pv 7)) pda_nil))))
      (pds_one (pd_app (pv 4) (pd_tup (pda_cons (pd_var 5 (pv 5)) (pda_cons (pd_var 6 (pv 6)) (pda_cons (pd_var 7 (pv 7)) (pda_cons (g_min2 rfl (by rfl) T.mmin (pda_cons (pd_op od_sub (pd_var 7 (pv 7)) pd_int) (pda_cons (g_max2 rfl (by rfl) T.mmax (pda_cons pd_int (pda_cons (pd_var 8 (pv 8)) pda_nil))) pda_nil))) pda_nil)))))))))
      (pds_one (pds_ret (pd_tup (pda_cons (g_ix (rfl) (pd_var 3 (pv 3)) pd_int) (pda_cons (g_tuple (rfl) (by rfl) T.mtuple (pda_cons (pd_var 4 (pv 4)) pda_nil)) (pda_cons (g_ix (rfl) (pd_var 3 (pv 3)) pd_int) pda_nil))))))))))⟩) fun as P _ hv => w__law_hall hv
theorem sc__law_line : FnScope N__law_line ["bag", "machines", "most"] (defScope s__law_line) := ⟨rfl, rfl, rfl, by decide +kernel, rfl, by decide +kernel, by decide +kernel⟩
theorem ok__law_line (T : Txt K mg) : FnOk P w K mg base CX0 4 T.fF_law_line T.dF_law_line ["bag", "machines", "most"] (spD K 3 V__law_line) := by
  have nd := sc__law_line.nd
  exact ok_imp (wf := W__law_line) (ok_by T.F_law_line.fn sc__law_line rfl fun cdv A outer s H E hr => ⟨_, (pds_cons (pd_setD (i := 3) nd rfl (by first | exact Or.inl rfl | exact Or.inr rfl) (g_add (rfl) (g_cut (rfl) (g_call (rfl) (ok__law_mixed T) (hr.mono (by decide)) (by rfl) T.F_law_mixed.g T.F_law_mixed.fn.kp T.F_law_mixed.b pass0 (pda_cons (pd_var 0 (pv 0)) (pda_cons (pd_lst (pda_cons pd_str (pda_cons pd_str (pda_cons pd_str (pda_cons pd_str (pda_cons pd_str (pda_cons pd_str (pda_cons pd_str pda_nil)))))))) pda_nil))) pdo_none (pdo_some (pd_var 1 (pv 1)))) (pd_lst (pda_cons pd_str pda_nil))))
      (pds_cons (pd_setD (i := 4) nd rfl (by first | exact Or.inl rfl | exact Or.inr rfl) (g_add (rfl) pd_int (g_call (rfl) (ok__law_take T) (hr.mono (by decide)) (by rfl) T.F_law_take.g T.F_law_take.fn.kp T.F_law_take.b pass0 (pda_cons (pd_var 0 (pv 0)) (pda_cons pd_int pda_nil)))))
      (pds_cons (pd_setD (i := 5) nd rfl (by first | exact Or.inl rfl | exact Or.inr rfl) (g_add (rfl) (pd_lc (own := [("name", 6)]) (g := (gName 6)) (sl := [6]) (wg := (fun r ρ P => asgD 6 r ρ P)) rfl nd (gi_seq (rfl) (g_cut (rfl) (pd_var 3 (pv 3)) pdo_none (pdo_some (pd_neg pd_int)))) (blkOk_by (N := N__law_line) (sc := (defScope s__law_line)) (by decide +kernel)) (fun _ _ _ _ _ => (pg_nm (i := 6) nd rfl (by first | exact Or.inl rfl | exact Or.inr rfl))) (fun _ _ _ _ _ => pdts_nil) (fun _ _ _ _ _ => (pd_tup (pda_cons (pd_var 6 (pv 6)) (pda_cons (g_add (rfl) pd_int (g_call (rfl) (ok__law_take T) (hr.mono (by decide)) (by rfl) T.F_law_take.g T.F_law_take.fn.kp T.F_law_take.b pass0 (pda_cons (pd_var 0 (pv 0)) (pda_cons (pd_var 4 (pv 4)) pda_nil)))) (pda_cons (g_call (rfl) (ok__law_purses T) (hr.mono (by decide)) (by rfl) T.F_law_purses.g T.F_law_purses.fn.kp T.F_law_purses.b pass0 (pda_cons (pd_var 0 (pv 0)) (pda_cons (pd_var 2 (pv 2)) pda_nil))) pda_nil))))) (by decide)) (pd_lst (pda_cons (pd_tup (pda_cons pd_str (pda_cons (pd_var 4 (pv 4)) (pda_cons (pd_tup pda_nil) pda_nil)))) pda_nil))))
      (pds_cons (pd_setO (i := 7) nd rfl (by first | exact Or.inl rfl | exact Or.inr rfl) (pd_lst pda_nil))
      (pds_cons (pds_for PassesOwn.never rfl (gi_zip (rfl) (by rfl) T.mzip (pda_cons (pd_var 3 (pv 3)) (pda_cons (g_cut (rfl) (pd_var 3 (pv 3)) (pdo_some pd_int) pdo_none) pda_nil))) (g_tp (rfl) (n := 2) rfl (pdgs_cons (pg_nm (i := 8) nd rfl (by first | exact Or.inl rfl | exact Or.inr rfl)) (pdgs_cons (pg_nm (i := 9) nd rfl (by first | exact Or.inl rfl | exact Or.inr rfl)) pdgs_nil)))
      (pds_cons (pd_setD (i := 10) nd rfl (by first | exact Or.inl rfl | exact Or.inr rfl) (g_add (rfl) pd_int (g_call (rfl) (ok__law_take T) (hr.mono (by decide)) (by rfl) T.F_law_take.g T.F_law_take.fn.kp T.F_law_take.b pass0 (pda_cons (pd_var 0 (pv 0)) (pda_cons pd_int pda_nil)))))
      (pds_one (pd_app (pv 7) (pd_tup (pda_cons (pd_var 8 (pv 8)) (pda_cons (pd_var 9 (pv 9)) (pda_cons (pd_var 10 (pv 10)) (pda_cons (pd_var 10 (pv 10)) pda_nil)))))))))
      (pds_one (pds_ret (pd_tup (pda_cons (g_tuple (rfl) (by rfl) T.mtuple (pda_cons (g_sortN (rfl) (by rfl) T.msorted (pda_cons (pd_var 5 (pv 5)) pda_nil)) pda_nil)) (pda_cons (g_tuple (rfl) (by rfl) T.mtuple (pda_cons (g_call (rfl) (ok__law_mixed T) (hr.mono (by decide)) (by rfl) T.F_law_mixed.g T.F_law_mixed.fn.kp T.F_law_mixed.b pass0 (pda_cons (pd_var 0 (pv 0)) (pda_cons (pd_var 7 (pv 7)) pda_nil))) pda_nil)) (pda_cons pd_str pda_nil)))))))))))⟩) fun as P _ hv => w__law_line hv
theorem sc__law_tree : FnScope N__law_tree ["bag", "machines", "most"] (defScope s__law_tree) := ⟨rfl, rfl, rfl, by decide +kernel, rfl, by decide +kernel, by decide +kernel⟩
theorem ok__law_tree (T : Txt K mg) : FnOk P w K mg base CX0 4 T.fF_law_tree T.dF_law_tree ["bag", "machines", "most"] (spD K 3 V__law_tree) := by
  have nd := sc__law_tree.nd
  exact ok_imp (wf := W__law_tree) (ok_by T.F_law_tree.fn sc__law_tree rfl fun cdv A outer s H E hr => ⟨_, (pds_cons (pd_parDD (i := 3) (j := 4) rfl nd rfl rfl (by decide) rfl rfl (pda_cons (g_cut (rfl) (g_call (rfl) (ok__law_mixed T) (hr.mono (by decide)) (by rfl) T.F_law_mixed.g T.F_law_mixed.fn.kp T.F_law_mixed.b pass0 (pda_cons (pd_var 0 (pv 0)) (pda_cons (pd_lst (pda_cons pd_str (pda_cons pd_str (pda_cons pd_str (pda_cons pd_str (pda_cons pd_str (pda_cons pd_str (pda_cons pd_str pda_nil)))))))) pda_nil))) pdo_none (pdo_some (pd_var 1 (pv 1)))) (pda_cons (g_add (rfl) pd_int (g_call (rfl) (ok__law_take T) (hr.mono (by decide)) (by rfl) T.F_law_take.g T.F_law_take.fn.kp T.F_law_take.b pass0 (pda_cons (pd_var 0 (pv 0)) (pda_cons pd_int pda_nil)))) pda_nil)) (by rfl))
      (pds_cons (pd_parOOO (i := 5) (j := 6) (l := 7) rfl nd rfl rfl rfl (by decide) (by decide) (by decide) rfl rfl rfl (pda_cons (pd_lst (pda_cons (pd_tup (pda_cons pd_str (pda_cons (pd_var 4 (pv 4)) (pda_cons (pd_tup pda_nil) pda_nil)))) pda_nil)) (pda_cons (pd_lst pda_nil) (pda_cons (pd_lst (pda_cons pd_str pda_nil)) pda_nil))) (by rfl))
      (pds_cons (pds_for PassesOwn.never rfl (gi_seq (rfl) (pd_var 3 (pv 3))) (pg_nm (i := 8) nd rfl (by first | exact Or.inl rfl | exact Or.inr rfl))
      (pds_cons (pd_setD (i := 9) nd rfl (by first | exact Or.inl rfl | exact Or.inr rfl) (g_add (rfl) pd_int (g_call (rfl) (ok__law_take T) (hr.mono (by decide)) (by rfl) T.F_law_take.g T.F_law_take.fn.kp T.F_law_take.b pass0 (pda_cons (pd_var 0 (pv 0)) (pda_cons pd_int pda_nil)))))
      (pds_cons (pd_app (pv 5) (pd_tup (pda_cons (pd_var 8 (pv 8)) (pda_cons (g_add (rfl) pd_int (g_call (rfl) (ok__law_take T) (hr.mono (by decide)) (by rfl) T.F_law_take.g T.F_law_take.fn.kp T.F_law_take.b pass0 (pda_cons (pd_var 0 (pv 0)) (pda_cons (pd_var 4 (pv 4)) pda_nil)))) (pda_cons (g_call (rfl) (ok__law_purses T) (hr.mono (by decide)) (by rfl) T.F_law_purses.g T.F_law_purses.fn.kp T.F_law_purses.b pass0 (pda_cons (pd_var 0 (pv 0)) (pda_cons (pd_var 2 (pv 2)) pda_nil))) pda_nil)))))
      (pds_cons (pd_app (pv 6) (pd_tup (pda_cons (pd_var 8 (pv 8)) (pda_cons (g_call (rfl) (ok__law_some T) (hr.mono (by decide)) (by rfl) T.F_law_some.g T.F_law_some.fn.kp T.F_law_some.b pass0 (pda_cons (pd_var 0 (pv 0)) (pda_cons (pd_var 7 (pv 7)) pda_nil))) (pda_cons (pd_var 9 (pv 9)) (pda_cons (pd_var 9 (pv 9)) pda_nil))))))
      (pds_one (pd_app (pv 7) (pd_var 8 (pv 8))))))))
      (pds_one (pds_ret (pd_tup (pda_cons (g_tuple (rfl) (by rfl) T.mtuple (pda_cons (g_sortN (rfl) (by rfl) T.msorted (pda_cons (pd_var 5 (pv 5)) pda_nil)) pda_nil)) (pda_cons (g_tuple (rfl) (by rfl) T.mtuple (pda_cons (g_call (rfl) (ok__law_mixed T) (hr.mono (by decide)) (by rfl) T.F_law_mixed.g T.F_law_mixed.fn.kp T.F_law_mixed.b pass0 (pda_cons (pd_var 0 (pv 0)) (pda_cons (pd_var 6 (pv 6)) pda_nil))) pda_nil)) (pda_cons pd_str pda_nil)))))))))⟩) fun as P _ hv => w__law_tree hv
theorem sc__law_way : FnScope N__law_way ["bag", "hall", "many"] (defScope s__law_way) := ⟨rfl, rfl, rfl, by decide +kernel, rfl, by decide +kernel, by decide +kernel⟩
theorem ok__law_way (T : Txt K mg) : FnOk P w K mg base CX0 3 T.fF_law_way T.dF_law_way ["bag", "hall", "many"] (spD K 3 V__law_way) := by
  have nd := sc__law_way.nd
  exact ok_imp (wf := W__law_way) (ok_by T.F_law_way.fn sc__law_way rfl fun cdv A outer s H E hr => ⟨_, (pds_cons (pd_setD (i := 3) nd rfl (by first | exact Or.inl rfl | exact Or.inr rfl) (g_call (rfl) (ok__law_some T) (hr.mono (by decide)) (by rfl) T.F_law_some.g T.F_law_some.fn.kp T.F_law_some.b pass0 (pda_cons (pd_var 0 (pv 0)) (pda_cons (g_call (rfl) (ok__law_names T) (hr.mono (by decide)) (by rfl) T.F_law_names.g T.F_law_names.fn.kp T.F_law_names.b pass0 (pda_cons (pd_var 1 (pv 1)) pda_nil)) pda_nil))))
      (pds_cons (pd_parDO (i := 4) (j := 5) rfl nd rfl rfl (by decide) rfl rfl (pda_cons (pd_var 3 (pv 3)) (pda_cons (pd_lst pda_nil) pda_nil)) (by rfl))
      (pds_cons (pds_for PassesOwn.never rfl (gi_rng1 (by rfl) T.mrange (pda_cons (g_call (rfl) (ok__law_take T) (hr.mono (by decide)) (by rfl) T.F_law_take.g T.F_law_take.fn.kp T.F_law_take.b pass0 (pda_cons (pd_var 0 (pv 0)) (pda_cons (g_add (rfl) (pd_var 2 (pv 2)) pd_int) pda_nil))) pda_nil)) (pg_nm (i := 6) nd rfl (by first | exact Or.inl rfl | exact Or.inr rfl))
      (pds_cons (pd_setO (i := 7) nd rfl (by first | exact Or.inl rfl | exact Or.inr rfl) (g_call (rfl) (ok__law_arcs T) (hr.mono (by decide)) (by rfl) T.F_law_arcs.g T.F_law_arcs.fn.kp T.F_law_arcs.b pass0 (pda_cons (pd_var 1 (pv 1)) (pda_cons (pd_var 3 (pv 3)) pda_nil))))
      (pds_cons (pd_asg (g_call (rfl) (ok__law_some T) (hr.mono (by decide)) (by rfl) T.F_law_some.g T.F_law_some.fn.kp T.F_law_some.b pass0 (pda_cons (pd_var 0 (pv 0)) (pda_cons (pd_if (pdt_cmp od_gt (g_len (rfl) (by rfl) T.mlen (pda_cons (pd_var 7 (pv 7)) pda_nil)) pd_int (nomark _)) (g_add (rfl) (g_cut (rfl) (pd_var 7 (pv 7)) (pdo_some pd_int) pdo_none) (pd_var 7 (pv 7))) (pd_var 7 (pv 7))) pda_nil))) (g_tp (rfl) (n := 3) rfl (pdgs_cons (pg_nm (i := 8) nd rfl (by first | exact Or.inl rfl | exact Or.inr rfl)) (pdgs_cons (pg_nm (i := 3) nd rfl (by first | exact Or.inl rfl | exact Or.inr rfl)) (pdgs_cons (pg_nm (i := 9) nd rfl (by first | exact Or.inl rfl | exact Or.inr rfl)) pdgs_nil)))))
      (pds_one (pd_app (pv 5) (pd_var 8 (pv 8)))))))
      (pds_one (pds_ret (pd_tup (pda_cons (pd_var 4 (pv 4)) (pda_cons (g_tuple (rfl) (by rfl) T.mtuple (pda_cons (pd_var 5 (pv 5)) pda_nil)) pda_nil))))))))⟩) fun as P _ hv => w__law_way hv
theorem sc__law_home : FnScope N__law_home ["hall", "name"] (defScope s__law_home) := ⟨rfl, rfl, rfl, by decide +kernel, rfl, by decide +kernel, by decide +kernel⟩
theorem ok__law_home (T : Txt K mg) : FnOk P w K mg base CX0 2 T.fF_law_home T.dF_law_home ["hall", "name"] (spD K 2 V__law_home) := by
  have nd := sc__law_home.nd
  exact ok_imp (wf := W__law_home) (ok_by T.F_law_home.fn sc__law_home rfl fun cdv A outer s H E hr => ⟨_, (pds_cons (pd_parOO (i := 2) (j := 3) rfl nd rfl rfl (by decide) rfl rfl (pda_cons (pd_dicV (g_ix (rfl) (pd_var 0 (pv 0)) pd_int) (pd_tup pda_nil)) (pda_cons (pd_lst (pda_cons (g_ix (rfl) (pd_var 0 (pv 0)) pd_int) pda_nil)) pda_nil)) (by rfl))
      (pds_cons (pds_while PassesOwn.never (gt_ne (rfl) hr.units (pd_var 3 (pv 3)) (pd_lst pda_nil))
      (pds_cons (pd_pop0 (i := 3) (j := 4) nd rfl (by first | exact Or.inl rfl | exact Or.inr rfl) (pv 3) pe_int)
      (pds_one (pds_for PassesOwn.never rfl (gi_seq (rfl) (g_call (rfl) (ok__law_names T) (hr.mono (by decide)) (by rfl) T.F_law_names.g T.F_law_names.fn.kp T.F_law_names.b pass0 (pda_cons (pd_var 0 (pv 0)) pda_nil))) (pg_nm (i := 5) nd rfl (by first | exact Or.inl rfl | exact Or.inr rfl))
      (pds_cons (by first | exact pd_setLcD (i := 6) (own := [("arc", 7), ("its", 8), ("growth", 9)]) (g := (gSq K 3 (gCons (gName 7) (gCons (gName 8) (gCons (gName 9) gNil))))) (sl := ([7] ++ ([8] ++ ([9] ++ [])))) (wg := (wgTup 3 (wgCons (fun r ρ P => asgD 7 r ρ P) (wgCons (fun r ρ P => asgD 8 r ρ P) (wgCons (fun r ρ P => asgD 9 r ρ P) wgNil))))) rfl nd rfl rfl (by rfl) (gi_seq (rfl) (g_call (rfl) (ok__law_arcs T) (hr.mono (by decide)) (by rfl) T.F_law_arcs.g T.F_law_arcs.fn.kp T.F_law_arcs.b pass0 (pda_cons (pd_var 0 (pv 0)) (pda_cons (pd_var 5 (pv 5)) pda_nil)))) (blkOk_by (N := N__law_home) (sc := (defScope s__law_home)) (by decide +kernel)) (fun _ _ _ _ _ => (g_tp (rfl) (n := 3) rfl (pdgs_cons (pg_nm (i := 7) nd rfl (by first | exact Or.inl rfl | exact Or.inr rfl)) (pdgs_cons (pg_nm (i := 8) nd rfl (by first | exact Or.inl rfl | exact Or.inr rfl)) (pdgs_cons (pg_nm (i := 9) nd rfl (by first | exact Or.inl rfl | exact Or.inr rfl)) pdgs_nil))))) (fun _ _ _ _ _ => (pdts_one (pdw_t (pdw_and (gt_eq (rfl) hr.units (pd_var 8 (pv 8)) (pd_var 4 (pv 4))) (pdw_and1 (gt_ne (rfl) hr.units (g_ix (rfl) (pd_var 7 (pv 7)) pd_int) pd_str)))))) (fun _ _ _ _ _ => (pd_var 7 (pv 7))) (by decide) | exact pd_setD (i := 6) nd rfl (by first | exact Or.inl rfl | exact Or.inr rfl) (pd_lc (own := [("arc", 7), ("its", 8), ("growth", 9)]) (g := (gSq K 3 (gCons (gName 7) (gCons (gName 8) (gCons (gName 9) gNil))))) (sl := ([7] ++ ([8] ++ ([9] ++ [])))) (wg := (wgTup 3 (wgCons (fun r ρ P => asgD 7 r ρ P) (wgCons (fun r ρ P => asgD 8 r ρ P) (wgCons (fun r ρ P => asgD 9 r ρ P) wgNil))))) rfl nd (gi_seq (rfl) (g_call (rfl) (ok__law_arcs T) (hr.mono (by decide)) (by rfl) T.F_law_arcs.g T.F_law_arcs.fn.kp T.F_law_arcs.b pass0 (pda_cons (pd_var 0 (pv 0)) (pda_cons (pd_var 5 (pv 5)) pda_nil)))) (blkOk_by (N := N__law_home) (sc := (defScope s__law_home)) (by decide +kernel)) (fun _ _ _ _ _ => (g_tp (rfl) (n := 3) rfl (pdgs_cons (pg_nm (i := 7) nd rfl (by first | exact Or.inl rfl | exact Or.inr rfl)) (pdgs_cons (pg_nm (i := 8) nd rfl (by first | exact Or.inl rfl | exact Or.inr rfl)) (pdgs_cons (pg_nm (i := 9) nd rfl (by first | exact Or.inl rfl | exact Or.inr rfl)) pdgs_nil))))) (fun _ _ _ _ _ => (pdts_one (pdw_t (pdw_and (gt_eq (rfl) hr.units (pd_var 8 (pv 8)) (pd_var 4 (pv 4))) (pdw_and1 (gt_ne (rfl) hr.units (g_ix (rfl) (pd_var 7 (pv 7)) pd_int) pd_str)))))) (fun _ _ _ _ _ => (pd_var 7 (pv 7))) (by decide)))
      (pds_one (pds_if (pdw_t (pdw_and (gt_notInD hr.units (pd_var 5 (pv 5)) (pd_var 2 (pv 2))) (pdw_and1 (gt_ne (rfl) hr.units (pd_var 6 (pv 6)) (pd_lst pda_nil))))) (pds_cons (pd_put (i := 2) hr.units (pv 2) (pd_var 5 (pv 5)) (g_add (rfl) (pd_tup (pda_cons (g_ix (rfl) (pd_var 6 (pv 6)) pd_int) pda_nil)) (pd_get hr.units (pd_var 2 (pv 2)) (pd_var 4 (pv 4)))))
      (pds_one (pd_app (pv 3) (pd_var 5 (pv 5))))) pds_nil)))))))
      (pds_one (pds_ret (pd_get hr.units (pd_var 2 (pv 2)) (pd_var 1 (pv 1)))))))⟩) fun as P _ hv => w__law_home hv
theorem sc__law_walk : FnScope N__law_walk ["bag", "hall", "many"] (defScope s__law_walk) := ⟨rfl, rfl, rfl, by decide +kernel, rfl, by decide +kernel, by decide +kernel⟩
theorem ok__law_walk (T : Txt K mg) : FnOk P w K mg base CX0 4 T.fF_law_walk T.dF_law_walk ["bag", "hall", "many"] (spD K 3 V__law_walk) := by
  have nd := sc__law_walk.nd
  exact ok_imp (wf := W__law_walk) (ok_by T.F_law_walk.fn sc__law_walk rfl fun cdv A outer s H E hr => ⟨_, (pds_cons (pd_asg (g_call (rfl) (ok__law_way T) (hr.mono (by decide)) (by rfl) T.F_law_way.g T.F_law_way.fn.kp T.F_law_way.b pass0 (pda_cons (pd_var 0 (pv 0)) (pda_cons (pd_var 1 (pv 1)) (pda_cons (pd_var 2 (pv 2)) pda_nil)))) (g_tp (rfl) (n := 2) rfl (pdgs_cons (pg_nm (i := 3) nd rfl (by first | exact Or.inl rfl | exact Or.inr rfl)) (pdgs_cons (pg_nm (i := 4) nd rfl (by first | exact Or.inl rfl | exact Or.inr rfl)) pdgs_nil))))
      (pds_cons (pd_parDO (i := 5) (j := 6) rfl nd rfl rfl (by decide) rfl rfl (pda_cons (pd_var 3 (pv 3)) (pda_cons (pd_lst pda_nil) pda_nil)) (by rfl))
      (pds_cons (pds_for PassesOwn.never rfl (gi_seq (rfl) (pd_var 4 (pv 4))) (pg_nm (i := 7) nd rfl (by first | exact Or.inl rfl | exact Or.inr rfl))
      (pds_cons (pd_setD (i := 5) nd rfl (by first | exact Or.inl rfl | exact Or.inr rfl) (g_ix (rfl) (pd_lc (own := [("one", 8), ("end", 9), ("growth", 10)]) (g := (gSq K 3 (gCons (gName 8) (gCons (gName 9) (gCons (gName 10) gNil))))) (sl := ([8] ++ ([9] ++ ([10] ++ [])))) (wg := (wgTup 3 (wgCons (fun r ρ P => asgD 8 r ρ P) (wgCons (fun r ρ P => asgD 9 r ρ P) (wgCons (fun r ρ P => asgD 10 r ρ P) wgNil))))) rfl nd (gi_seq (rfl) (g_call (rfl) (ok__law_arcs T) (hr.mono (by decide)) (by rfl) T.F_law_arcs.g T.F_law_arcs.fn.kp T.F_law_arcs.b pass0 (pda_cons (pd_var 1 (pv 1)) (pda_cons (pd_var 5 (pv 5)) pda_nil)))) (blkOk_by (N := N__law_walk) (sc := (defScope s__law_walk)) (by decide +kernel)) (fun _ _ _ _ _ => (g_tp (rfl) (n := 3) rfl (pdgs_cons (pg_nm (i := 8) nd rfl (by first | exact Or.inl rfl | exact Or.inr rfl)) (pdgs_cons (pg_nm (i := 9) nd rfl (by first | exact Or.inl rfl | exact Or.inr rfl)) (pdgs_cons (pg_nm (i := 10) nd rfl (by first | exact Or.inl rfl | exact Or.inr rfl)) pdgs_nil))))) (fun _ _ _ _ _ => (pdts_one (gt_eq (rfl) hr.units (pd_var 8 (pv 8)) (pd_var 7 (pv 7))))) (fun _ _ _ _ _ => (pd_var 9 (pv 9))) (by decide)) pd_int))
      (pds_cons (pd_app (pv 6) (pd_var 7 (pv 7)))
      (pds_one (pds_if (gt_eq (rfl) hr.units (pd_var 5 (pv 5)) (g_ix (rfl) (pd_var 1 (pv 1)) pd_int)) (pds_one (pds_ret (pd_tup (pda_cons (pd_var 3 (pv 3)) (pda_cons (g_tuple (rfl) (by rfl) T.mtuple (pda_cons (pd_var 6 (pv 6)) pda_nil)) pda_nil))))) pds_nil)))))
      (pds_cons (pd_setD (i := 11) nd rfl (by first | exact Or.inl rfl | exact Or.inr rfl) (g_call (rfl) (ok__law_home T) (hr.mono (by decide)) (by rfl) T.F_law_home.g T.F_law_home.fn.kp T.F_law_home.b pass0 (pda_cons (pd_var 1 (pv 1)) (pda_cons (pd_var 5 (pv 5)) pda_nil))))
      (pds_one (pds_ret (pd_if (pdw_t (pdw_or (gt_ne (rfl) hr.units (pd_var 6 (pv 6)) (pd_lst pda_nil)) (pdw_or1 (gt_ne (rfl) hr.units (pd_var 11 (pv 11)) (pd_tup pda_nil))))) (pd_tup (pda_cons (pd_var 3 (pv 3)) (pda_cons (g_add (rfl) (g_tuple (rfl) (by rfl) T.mtuple (pda_cons (pd_var 6 (pv 6)) pda_nil)) (pd_var 11 (pv 11))) pda_nil))) (pd_tup (pda_cons (pd_var 3 (pv 3)) (pda_cons (pd_tup (pda_cons (pd_tup (pda_cons pd_str (pda_cons (pd_var 3 (pv 3)) pda_nil))) pda_nil)) pda_nil))))))))))⟩) fun as P _ hv => w__law_walk hv
theorem sc__law_odd : FnScope N__law_odd ["bag"] (defScope s__law_odd) := ⟨rfl, rfl, rfl, by decide +kernel, rfl, by decide +kernel, by decide +kernel⟩
theorem ok__law_odd (T : Txt K mg) : FnOk P w K mg base CX0 3 T.fF_law_odd T.dF_law_odd ["bag"] (spD K 1 V__law_odd) := by
  have nd := sc__law_odd.nd
  exact ok_imp (wf := W__law_odd) (ok_by T.F_law_odd.fn sc__law_odd rfl fun cdv A outer s H E hr => ⟨_, (pds_cons (pd_setO (i := 1) nd rfl (by first | exact Or.inl rfl | exact Or.inr rfl) (pd_lst (pda_cons pd_non (pda_cons pd_bl (pda_cons pd_bl (pda_cons pd_int (pda_cons pd_int (pda_cons (pd_neg pd_int) (pda_cons (pd_op od_pow pd_int pd_int) (pda_cons pd_str (pda_cons pd_str (pda_cons pd_str (pda_cons (pd_tup pda_nil) (pda_cons (pd_lst pda_nil) (pda_cons pd_dic0 (pda_cons (pd_tup (pda_cons pd_int pda_nil)) (pda_cons (pd_tup (pda_cons pd_str pda_nil)) (pda_cons (pd_tup (pda_cons pd_str (pda_cons (pd_tup pda_nil) pda_nil))) (pda_cons (pd_tup (pda_cons pd_int (pda_cons pd_int pda_nil))) pda_nil)))))))))))))))))))
      (pds_one (pds_ret (g_call (rfl) (ok__law_some T) (hr.mono (by decide)) (by rfl) T.F_law_some.g T.F_law_some.fn.kp T.F_law_some.b pass0 (pda_cons (pd_var 0 (pv 0)) (pda_cons (g_add (rfl) (pd_var 1 (pv 1)) (pd_lst (pda_cons (pd_lst (pda_cons pd_str (pda_cons (pd_tup pda_nil) pda_nil))) (pda_cons (pd_tup (pda_cons pd_str (pda_cons pd_int pda_nil))) (pda_cons (pd_dic1 (k := Sum.inr "fill") pe_str (pd_tup (pda_cons pd_int pda_nil))) (pda_cons (pd_dic1 (k := Sum.inl 0) pe_int pd_int) (pda_cons pd_str (pda_cons (pd_tup (pda_cons (pd_tup (pda_cons pd_str (pda_cons pd_str pda_nil))) pda_nil)) pda_nil)))))))) pda_nil))))))⟩) fun as P _ hv => w__law_odd hv
theorem sc__law_bent : FnScope N__law_bent ["bag", "thing", "deep"] (defScope s__law_bent) := ⟨rfl, rfl, rfl, by decide +kernel, rfl, by decide +kernel, by decide +kernel⟩
theorem okr__law_bent (T : Txt K mg) {V_rec : WF} {k : Nat} (le : 3 ≤ k) (G : FnOk P w K mg base CX0 k T.fF_law_bent T.dF_law_bent ["bag", "thing", "deep"] (spD K 3 V_rec)) : FnOk P w K mg base CX0 (k + 1) T.fF_law_bent T.dF_law_bent ["bag", "thing", "deep"] (spD K 3 (W__law_bent V_rec)) := by
  have nd := sc__law_bent.nd
  exact ok_by T.F_law_bent.fn sc__law_bent rfl fun cdv A outer s H E hr => ⟨_, (pds_cons (pds_if (pdw_t (pdw_or (gt_eq (rfl) hr.units (pd_var 2 (pv 2)) pd_int) (pdw_or1 (gt_eq (rfl) hr.units (g_call (rfl) (ok__law_take T) (hr.mono (Nat.le_trans (by decide) le)) (by rfl) T.F_law_take.g T.F_law_take.fn.kp T.F_law_take.b pass0 (pda_cons (pd_var 0 (pv 0)) (pda_cons pd_int pda_nil))) pd_int)))) (pds_one (pds_ret (g_call (rfl) (ok__law_odd T) (hr.mono (Nat.le_trans (by decide) le)) (by rfl) T.F_law_odd.g T.F_law_odd.fn.kp T.F_law_odd.b pass0 (pda_cons (pd_var 0 (pv 0)) pda_nil)))) pds_nil)
      (pds_cons (pds_if (gt_tru (rfl) (g_call (rfl) (ok__law_is_int T) (hr.mono (Nat.le_trans (by decide) le)) (by rfl) T.F_law_is_int.g T.F_law_is_int.fn.kp T.F_law_is_int.b pass0 (pda_cons (pd_var 1 (pv 1)) pda_nil))) (pds_one (pds_ret (g_call (rfl) (ok__law_some T) (hr.mono (Nat.le_trans (by decide) le)) (by rfl) T.F_law_some.g T.F_law_some.fn.kp T.F_law_some.b pass0 (pda_cons (pd_var 0 (pv 0)) (pda_cons (pd_lst (pda_cons (g_add (rfl) (pd_var 1 (pv 1)) pd_int) (pda_cons (pd_op od_sub (pd_var 1 (pv 1)) pd_int) (pda_cons pd_int (pda_cons (pd_neg (pd_var 1 (pv 1))) (pda_cons (g_eq (rfl) hr.units (pd_var 1 (pv 1)) pd_int) (pda_cons pd_non (pda_cons (g_mul (rfl) pd_int (pd_var 1 (pv 1))) (pda_cons (g_str (by rfl) T.mstr (pda_cons (pd_var 1 (pv 1)) pda_nil)) pda_nil))))))))) pda_nil))))) pds_nil)
      (pds_cons (pds_if (pdw_t (pdw_and (gt_tru (rfl) (g_isi (rfl) T.kt_dict (pd_var 1 (pv 1)) (by rfl) T.misinstance (by rfl) T.mdict bo_dict)) (pdw_and1 pdt_no))) pdss_never pds_nil)
      (pds_cons (pds_if (pdw_t (pdw_or (pdt_not (gt_tru (rfl) (g_isi (rfl) T.kt_tuple (pd_var 1 (pv 1)) (by rfl) T.misinstance (by rfl) T.mtuple bo_tuple))) (pdw_or1 (gt_eq (rfl) hr.units (pd_var 1 (pv 1)) (pd_tup pda_nil))))) (pds_one (pds_ret (g_call (rfl) (ok__law_some T) (hr.mono (Nat.le_trans (by decide) le)) (by rfl) T.F_law_some.g T.F_law_some.fn.kp T.F_law_some.b pass0 (pda_cons (pd_var 0 (pv 0)) (pda_cons (pd_lst (pda_cons (g_call (rfl) (ok__law_odd T) (hr.mono (Nat.le_trans (by decide) le)) (by rfl) T.F_law_odd.g T.F_law_odd.fn.kp T.F_law_odd.b pass0 (pda_cons (pd_var 0 (pv 0)) pda_nil)) (pda_cons (pd_if (gt_tru (rfl) (g_isi (rfl) T.kt_str (pd_var 1 (pv 1)) (by rfl) T.misinstance (by rfl) T.mstr bo_str)) (g_mul (rfl) (pd_var 1 (pv 1)) pd_int) (g_call (rfl) (ok__law_odd T) (hr.mono (Nat.le_trans (by decide) le)) (by rfl) T.F_law_odd.g T.F_law_odd.fn.kp T.F_law_odd.b pass0 (pda_cons (pd_var 0 (pv 0)) pda_nil))) pda_nil))) pda_nil))))) pds_nil)
      (pds_cons (pd_parDD (i := 8) (j := 9) rfl nd rfl rfl (by decide) rfl rfl (pda_cons (g_call (rfl) (ok__law_take T) (hr.mono (Nat.le_trans (by decide) le)) (by rfl) T.F_law_take.g T.F_law_take.fn.kp T.F_law_take.b pass0 (pda_cons (pd_var 0 (pv 0)) (pda_cons pd_int pda_nil))) (pda_cons (g_call (rfl) (ok__law_take T) (hr.mono (Nat.le_trans (by decide) le)) (by rfl) T.F_law_take.g T.F_law_take.fn.kp T.F_law_take.b pass0 (pda_cons (pd_var 0 (pv 0)) (pda_cons (g_len (rfl) (by rfl) T.mlen (pda_cons (pd_var 1 (pv 1)) pda_nil)) pda_nil))) pda_nil)) (by rfl))
      (pds_cons (pds_if (gt_eq (rfl) hr.units (pd_var 8 (pv 8)) pd_int) (pds_cons (pd_setO (i := 10) nd rfl (by first | exact Or.inl rfl | exact Or.inr rfl) (pd_lst (pda_cons (g_list (rfl) (by rfl) T.mlist (pda_cons (pd_var 1 (pv 1)) pda_nil)) (pda_cons (g_rev (rfl) (pd_var 1 (pv 1))) (pda_cons (g_add (rfl) (g_cut (rfl) (pd_var 1 (pv 1)) pdo_none (pdo_some (pd_var 9 (pv 9)))) (g_cut (rfl) (pd_var 1 (pv 1)) (pdo_some (g_add (rfl) (pd_var 9 (pv 9)) pd_int)) pdo_none)) (pda_cons (g_add (rfl) (g_cut (rfl) (pd_var 1 (pv 1)) pdo_none (pdo_some (g_add (rfl) (pd_var 9 (pv 9)) pd_int))) (g_cut (rfl) (pd_var 1 (pv 1)) (pdo_some (pd_var 9 (pv 9))) pdo_none)) pda_nil))))))
      (pds_one (pds_ret (g_call (rfl) (ok__law_some T) (hr.mono (Nat.le_trans (by decide) le)) (by rfl) T.F_law_some.g T.F_law_some.fn.kp T.F_law_some.b pass0 (pda_cons (pd_var 0 (pv 0)) (pda_cons (g_add (rfl) (pd_var 10 (pv 10)) (pd_lst (pda_cons (g_add (rfl) (pd_var 1 (pv 1)) (pd_tup (pda_cons pd_non pda_nil))) pda_nil))) pda_nil)))))) pds_nil)
      (pds_one (pds_ret (g_add (rfl) (g_add (rfl) (g_cut (rfl) (pd_var 1 (pv 1)) pdo_none (pdo_some (pd_var 9 (pv 9)))) (pd_tup (pda_cons (g_call (rfl) G (hr.mono (Nat.le_refl _)) (by rfl) T.F_law_bent.g T.F_law_bent.fn.kp T.F_law_bent.b pass0 (pda_cons (pd_var 0 (pv 0)) (pda_cons (g_ix (rfl) (pd_var 1 (pv 1)) (pd_var 9 (pv 9))) (pda_cons (pd_op od_sub (pd_var 2 (pv 2)) pd_int) pda_nil)))) pda_nil))) (g_cut (rfl) (pd_var 1 (pv 1)) (pdo_some (g_add (rfl) (pd_var 9 (pv 9)) pd_int)) pdo_none))))))))))⟩
theorem oks__law_bent (T : Txt K mg) : ∀ n, FnOk P w K mg base CX0 (4 + n) T.fF_law_bent T.dF_law_bent ["bag", "thing", "deep"] (spD K 3 (V__law_bent n))
  | 0 => ok_imp (okr__law_bent T (k := 3) (by decide) fn_never) fun as P _ hv => w_bent0 hv
  | n + 1 => ok_imp (okr__law_bent T (k := 4 + n) (by omega) (oks__law_bent T n)) fun as P _ hv => w_bentS hv
theorem ok__law_bent (T : Txt K mg) : FnOk P w K mg base CX0 8 T.fF_law_bent T.dF_law_bent ["bag", "thing", "deep"] (spD K 3 (V__law_bent 4)) := oks__law_bent T 4
theorem sc__law_is_arc : FnScope N__law_is_arc ["hall", "thing"] (defScope s__law_is_arc) := ⟨rfl, rfl, rfl, by decide +kernel, rfl, by decide +kernel, by decide +kernel⟩
theorem ok__law_is_arc (T : Txt K mg) : FnOk P w K mg base CX0 2 T.fF_law_is_arc T.dF_law_is_arc ["hall", "thing"] (spD K 2 V__law_is_arc) := by
  have nd := sc__law_is_arc.nd
  exact ok_imp (wf := W__law_is_arc) (ok_by T.F_law_is_arc.fn sc__law_is_arc rfl fun cdv A outer s H E hr => ⟨_, (pds_cons (pds_if (pdw_t (pdw_or (pdt_not (gt_tru (rfl) (g_isi (rfl) T.kt_tuple (pd_var 1 (pv 1)) (by rfl) T.misinstance (by rfl) T.mtuple bo_tuple))) (pdw_or (gt_ne (rfl) hr.units (g_len (rfl) (by rfl) T.mlen (pda_cons (pd_var 1 (pv 1)) pda_nil)) pd_int) (pdw_or1 (pdt_not (gt_tru (rfl) (g_isi (rfl) T.kt_str (g_ix (rfl) (pd_var 1 (pv 1)) pd_int) (by rfl) T.misinstance (by rfl) T.mstr bo_str))))))) (pds_one (pds_ret pd_bl)) pds_nil)
      (pds_cons (pds_if (gt_eq (rfl) hr.units (g_ix (rfl) (pd_var 1 (pv 1)) pd_int) pd_str) (pds_one (pds_ret (pd_and (g_isi (rfl) T.kt_str (g_ix (rfl) (pd_var 1 (pv 1)) pd_int) (by rfl) T.misinstance (by rfl) T.mstr bo_str) (pd_one (g_in (rfl) (g_ix (rfl) (pd_var 1 (pv 1)) pd_int) (g_call (rfl) (ok__law_names T) (hr.mono (by decide)) (by rfl) T.F_law_names.g T.F_law_names.fn.kp T.F_law_names.b pass0 (pda_cons (pd_var 0 (pv 0)) pda_nil)) (by rfl)))))) pds_nil)
      (pds_one (pds_ret (pd_and (g_in (rfl) (g_ix (rfl) (pd_var 1 (pv 1)) pd_int) (pd_tup (pda_cons pd_str (pda_cons pd_str pda_nil))) (by rfl)) (pd_and (g_call (rfl) (ok__law_is_int T) (hr.mono (by decide)) (by rfl) T.F_law_is_int.g T.F_law_is_int.fn.kp T.F_law_is_int.b pass0 (pda_cons (g_ix (rfl) (pd_var 1 (pv 1)) pd_int) pda_nil)) (pd_one (pd_chain od_le od_lt pd_int (g_ix (rfl) (pd_var 1 (pv 1)) pd_int) (g_len (rfl) (by rfl) T.mlen (pda_cons (g_ix (rfl) (pd_var 0 (pv 0)) pd_int) pda_nil))))))))))⟩) fun as P _ hv => w__law_is_arc hv
theorem sc__law_end : FnScope N__law_end ["hall", "name", "arc"] (defScope s__law_end) := ⟨rfl, rfl, rfl, by decide +kernel, rfl, by decide +kernel, by decide +kernel⟩
theorem ok__law_end (T : Txt K mg) : FnOk P w K mg base CX0 2 T.fF_law_end T.dF_law_end ["hall", "name", "arc"] (spD K 3 V__law_end) := by
  have nd := sc__law_end.nd
  exact ok_imp (wf := W__law_end) (ok_by T.F_law_end.fn sc__law_end rfl fun cdv A outer s H E hr => ⟨_, (pds_cons (by first | exact pd_setLcD (i := 3) (own := [("one", 4), ("end", 5), ("growth", 6)]) (g := (gSq K 3 (gCons (gName 4) (gCons (gName 5) (gCons (gName 6) gNil))))) (sl := ([4] ++ ([5] ++ ([6] ++ [])))) (wg := (wgTup 3 (wgCons (fun r ρ P => asgD 4 r ρ P) (wgCons (fun r ρ P => asgD 5 r ρ P) (wgCons (fun r ρ P => asgD 6 r ρ P) wgNil))))) rfl nd rfl rfl (by rfl) (gi_seq (rfl) (g_call (rfl) (ok__law_arcs T) (hr.mono (by decide)) (by rfl) T.F_law_arcs.g T.F_law_arcs.fn.kp T.F_law_arcs.b pass0 (pda_cons (pd_var 0 (pv 0)) (pda_cons (pd_var 1 (pv 1)) pda_nil)))) (blkOk_by (N := N__law_end) (sc := (defScope s__law_end)) (by decide +kernel)) (fun _ _ _ _ _ => (g_tp (rfl) (n := 3) rfl (pdgs_cons (pg_nm (i := 4) nd rfl (by first | exact Or.inl rfl | exact Or.inr rfl)) (pdgs_cons (pg_nm (i := 5) nd rfl (by first | exact Or.inl rfl | exact Or.inr rfl)) (pdgs_cons (pg_nm (i := 6) nd rfl (by first | exact Or.inl rfl | exact Or.inr rfl)) pdgs_nil))))) (fun _ _ _ _ _ => (pdts_one (gt_eq (rfl) hr.units (pd_var 4 (pv 4)) (pd_var 2 (pv 2))))) (fun _ _ _ _ _ => (pd_var 5 (pv 5))) (by decide) | exact pd_setD (i := 3) nd rfl (by first | exact Or.inl rfl | exact Or.inr rfl) (pd_lc (own := [("one", 4), ("end", 5), ("growth", 6)]) (g := (gSq K 3 (gCons (gName 4) (gCons (gName 5) (gCons (gName 6) gNil))))) (sl := ([4] ++ ([5] ++ ([6] ++ [])))) (wg := (wgTup 3 (wgCons (fun r ρ P => asgD 4 r ρ P) (wgCons (fun r ρ P => asgD 5 r ρ P) (wgCons (fun r ρ P => asgD 6 r ρ P) wgNil))))) rfl nd (gi_seq (rfl) (g_call (rfl) (ok__law_arcs T) (hr.mono (by decide)) (by rfl) T.F_law_arcs.g T.F_law_arcs.fn.kp T.F_law_arcs.b pass0 (pda_cons (pd_var 0 (pv 0)) (pda_cons (pd_var 1 (pv 1)) pda_nil)))) (blkOk_by (N := N__law_end) (sc := (defScope s__law_end)) (by decide +kernel)) (fun _ _ _ _ _ => (g_tp (rfl) (n := 3) rfl (pdgs_cons (pg_nm (i := 4) nd rfl (by first | exact Or.inl rfl | exact Or.inr rfl)) (pdgs_cons (pg_nm (i := 5) nd rfl (by first | exact Or.inl rfl | exact Or.inr rfl)) (pdgs_cons (pg_nm (i := 6) nd rfl (by first | exact Or.inl rfl | exact Or.inr rfl)) pdgs_nil))))) (fun _ _ _ _ _ => (pdts_one (gt_eq (rfl) hr.units (pd_var 4 (pv 4)) (pd_var 2 (pv 2))))) (fun _ _ _ _ _ => (pd_var 5 (pv 5))) (by decide)))
      (pds_one (pds_ret (pd_if (gt_ne (rfl) hr.units (pd_var 3 (pv 3)) (pd_lst pda_nil)) (g_ix (rfl) (pd_var 3 (pv 3)) pd_int) pd_non))))⟩) fun as P _ hv => w__law_end hv
theorem sc__law_growth : FnScope N__law_growth ["hall", "arc"] (defScope s__law_growth) := ⟨rfl, rfl, rfl, by decide +kernel, rfl, by decide +kernel, by decide +kernel⟩
theorem ok__law_growth (T : Txt K mg) : FnOk P w K mg base CX0 1 T.fF_law_growth T.dF_law_growth ["hall", "arc"] (spD K 2 V__law_growth) := by
  have nd := sc__law_growth.nd
  exact ok_imp (wf := W__law_growth) (ok_by T.F_law_growth.fn sc__law_growth rfl fun cdv A outer s H E hr => ⟨_, (pds_cons (pds_if (gt_eq (rfl) hr.units (g_ix (rfl) (pd_var 1 (pv 1)) pd_int) pd_str) (pds_one (pds_ret pd_int)) pds_nil)
      (pds_cons (pd_asg (g_cut (rfl) (g_ix (rfl) (g_ix (rfl) (pd_var 0 (pv 0)) pd_int) (g_ix (rfl) (pd_var 1 (pv 1)) pd_int)) (pdo_some pd_int) pdo_none) (g_tp (rfl) (n := 2) rfl (pdgs_cons (pg_nm (i := 2) nd rfl (by first | exact Or.inl rfl | exact Or.inr rfl)) (pdgs_cons (pg_nm (i := 3) nd rfl (by first | exact Or.inl rfl | exact Or.inr rfl)) pdgs_nil))))
      (pds_one (pds_ret (pd_if (gt_eq (rfl) hr.units (g_ix (rfl) (pd_var 1 (pv 1)) pd_int) pd_str) (pd_var 3 (pv 3)) (pd_op od_sub (pd_var 2 (pv 2)) (pd_var 3 (pv 3))))))))⟩) fun as P _ hv => w__law_growth hv
theorem sc__law_is_way : FnScope N__law_is_way ["hall", "thing"] (defScope s__law_is_way) := ⟨rfl, rfl, rfl, by decide +kernel, rfl, by decide +kernel, by decide +kernel⟩
theorem ok__law_is_way (T : Txt K mg) : FnOk P w K mg base CX0 3 T.fF_law_is_way T.dF_law_is_way ["hall", "thing"] (spD K 2 V__law_is_way) := by
  have nd := sc__law_is_way.nd
  exact ok_imp (wf := W__law_is_way) (ok_by T.F_law_is_way.fn sc__law_is_way rfl fun cdv A outer s H E hr => ⟨_, (pds_cons (pds_if (pdw_t (pdw_or (pdt_not (gt_tru (rfl) (g_isi (rfl) T.kt_tuple (pd_var 1 (pv 1)) (by rfl) T.misinstance (by rfl) T.mtuple bo_tuple))) (pdw_or (gt_ne (rfl) hr.units (g_len (rfl) (by rfl) T.mlen (pda_cons (pd_var 1 (pv 1)) pda_nil)) pd_int) (pdw_or (pdt_not (gt_tru (rfl) (g_isi (rfl) T.kt_str (g_ix (rfl) (pd_var 1 (pv 1)) pd_int) (by rfl) T.misinstance (by rfl) T.mstr bo_str))) (pdw_or1 (pdt_not (gt_tru (rfl) (g_isi (rfl) T.kt_tuple (g_ix (rfl) (pd_var 1 (pv 1)) pd_int) (by rfl) T.misinstance (by rfl) T.mtuple bo_tuple)))))))) (pds_one (pds_ret pd_bl)) pds_nil)
      (pds_cons (pd_setD (i := 2) nd rfl (by first | exact Or.inl rfl | exact Or.inr rfl) (pd_if (gt_in (rfl) (g_ix (rfl) (pd_var 1 (pv 1)) pd_int) (g_call (rfl) (ok__law_names T) (hr.mono (by decide)) (by rfl) T.F_law_names.g T.F_law_names.fn.kp T.F_law_names.b pass0 (pda_cons (pd_var 0 (pv 0)) pda_nil)) (by rfl)) (g_ix (rfl) (pd_var 1 (pv 1)) pd_int) pd_non))
      (pds_cons (pds_for PassesOwn.never rfl (gi_seq (rfl) (g_ix (rfl) (pd_var 1 (pv 1)) pd_int)) (pg_nm (i := 3) nd rfl (by first | exact Or.inl rfl | exact Or.inr rfl))
      (pds_one (pd_setD (i := 2) nd rfl (by first | exact Or.inl rfl | exact Or.inr rfl) (pd_if (pdw_t (pdw_and (pdt_notN (pd_var 2 (pv 2))) (pdw_and1 (gt_tru (rfl) (g_call (rfl) (ok__law_is_arc T) (hr.mono (by decide)) (by rfl) T.F_law_is_arc.g T.F_law_is_arc.fn.kp T.F_law_is_arc.b pass0 (pda_cons (pd_var 0 (pv 0)) (pda_cons (pd_var 3 (pv 3)) pda_nil))))))) (g_call (rfl) (ok__law_end T) (hr.mono (by decide)) (by rfl) T.F_law_end.g T.F_law_end.fn.kp T.F_law_end.b pass0 (pda_cons (pd_var 0 (pv 0)) (pda_cons (pd_var 2 (pv 2)) (pda_cons (pd_var 3 (pv 3)) pda_nil)))) pd_non))))
      (pds_one (pds_ret (pd_notN (pd_var 2 (pv 2))))))))⟩) fun as P _ hv => w__law_is_way hv
theorem sc__law_met : FnScope N__law_met ["hall", "way"] (defScope s__law_met) := ⟨rfl, rfl, rfl, by decide +kernel, rfl, by decide +kernel, by decide +kernel⟩
theorem ok__law_met (T : Txt K mg) : FnOk P w K mg base CX0 3 T.fF_law_met T.dF_law_met ["hall", "way"] (spD K 2 V__law_met) := by
  have nd := sc__law_met.nd
  exact ok_imp (wf := W__law_met) (ok_by T.F_law_met.fn sc__law_met rfl fun cdv A outer s H E hr => ⟨_, (pds_cons (pd_setO (i := 2) nd rfl (by first | exact Or.inl rfl | exact Or.inr rfl) (pd_lst (pda_cons (g_ix (rfl) (pd_var 1 (pv 1)) pd_int) pda_nil)))
      (pds_cons (pds_for PassesOwn.never rfl (gi_seq (rfl) (g_ix (rfl) (pd_var 1 (pv 1)) pd_int)) (pg_nm (i := 3) nd rfl (by first | exact Or.inl rfl | exact Or.inr rfl))
      (pds_one (pd_app (pv 2) (g_call (rfl) (ok__law_end T) (hr.mono (by decide)) (by rfl) T.F_law_end.g T.F_law_end.fn.kp T.F_law_end.b pass0 (pda_cons (pd_var 0 (pv 0)) (pda_cons (g_ix (rfl) (pd_var 2 (pv 2)) (pd_neg pd_int)) (pda_cons (pd_var 3 (pv 3)) pda_nil)))))))
      (pds_one (pds_retO (i := 2) (pv 2)))))⟩) fun as P _ hv => w__law_met hv
theorem sc__law_is_walk : FnScope N__law_is_walk ["hall", "thing"] (defScope s__law_is_walk) := ⟨rfl, rfl, rfl, by decide +kernel, rfl, by decide +kernel, by decide +kernel⟩
theorem ok__law_is_walk (T : Txt K mg) : FnOk P w K mg base CX0 4 T.fF_law_is_walk T.dF_law_is_walk ["hall", "thing"] (spD K 2 V__law_is_walk) := by
  have nd := sc__law_is_walk.nd
  exact ok_imp (wf := W__law_is_walk) (ok_by T.F_law_is_walk.fn sc__law_is_walk rfl fun cdv A outer s H E hr => ⟨_, (pds_cons (pds_if (pdw_t (pdw_or (pdt_not (gt_tru (rfl) (g_call (rfl) (ok__law_is_way T) (hr.mono (by decide)) (by rfl) T.F_law_is_way.g T.F_law_is_way.fn.kp T.F_law_is_way.b pass0 (pda_cons (pd_var 0 (pv 0)) (pda_cons (pd_var 1 (pv 1)) pda_nil))))) (pdw_or1 (gt_eq (rfl) hr.units (g_ix (rfl) (pd_var 1 (pv 1)) pd_int) (pd_tup pda_nil))))) (pds_one (pds_ret pd_bl)) pds_nil)
      (pds_cons (pd_setD (i := 2) nd rfl (by first | exact Or.inl rfl | exact Or.inr rfl) (g_cut (rfl) (g_call (rfl) (ok__law_met T) (hr.mono (by decide)) (by rfl) T.F_law_met.g T.F_law_met.fn.kp T.F_law_met.b pass0 (pda_cons (pd_var 0 (pv 0)) (pda_cons (pd_var 1 (pv 1)) pda_nil))) (pdo_some pd_int) pdo_none))
      (pds_one (pds_ret (pd_and (g_eq (rfl) hr.units (g_ix (rfl) (pd_var 2 (pv 2)) (pd_neg pd_int)) (g_ix (rfl) (pd_var 0 (pv 0)) pd_int)) (pd_one (g_notIn (rfl) (g_ix (rfl) (pd_var 0 (pv 0)) pd_int) (g_cut (rfl) (pd_var 2 (pv 2)) pdo_none (pdo_some (pd_neg pd_int))) (by rfl))))))))⟩) fun as P _ hv => w__law_is_walk hv
theorem sc__law_indexes : FnScope N__law_indexes ["hall", "way"] (defScope s__law_indexes) := ⟨rfl, rfl, rfl, by decide +kernel, rfl, by decide +kernel, by decide +kernel⟩
theorem ok__law_indexes (T : Txt K mg) : FnOk P w K mg base CX0 2 T.fF_law_indexes T.dF_law_indexes ["hall", "way"] (spD K 2 V__law_indexes) := by
  have nd := sc__law_indexes.nd
  exact ok_imp (wf := W__law_indexes) (ok_by T.F_law_indexes.fn sc__law_indexes rfl fun cdv A outer s H E hr => ⟨_, (pds_cons (pd_setO (i := 2) nd rfl (by first | exact Or.inl rfl | exact Or.inr rfl) (pd_lst (pda_cons pd_int pda_nil)))
      (pds_cons (pds_for PassesOwn.never rfl (gi_seq (rfl) (g_ix (rfl) (pd_var 1 (pv 1)) pd_int)) (pg_nm (i := 3) nd rfl (by first | exact Or.inl rfl | exact Or.inr rfl))
      (pds_one (pd_app (pv 2) (g_add (rfl) (g_ix (rfl) (pd_var 2 (pv 2)) (pd_neg pd_int)) (g_call (rfl) (ok__law_growth T) (hr.mono (by decide)) (by rfl) T.F_law_growth.g T.F_law_growth.fn.kp T.F_law_growth.b pass0 (pda_cons (pd_var 0 (pv 0)) (pda_cons (pd_var 3 (pv 3)) pda_nil)))))))
      (pds_one (pds_retO (i := 2) (pv 2)))))⟩) fun as P _ hv => w__law_indexes hv
theorem sc__law_ended : FnScope N__law_ended ["hall", "way"] (defScope s__law_ended) := ⟨rfl, rfl, rfl, by decide +kernel, rfl, by decide +kernel, by decide +kernel⟩
theorem ok__law_ended (T : Txt K mg) : FnOk P w K mg base CX0 4 T.fF_law_ended T.dF_law_ended ["hall", "way"] (spD K 2 V__law_ended14) := by
  have nd := sc__law_ended.nd
  exact ok_imp (wf := W__law_ended) (ok_by T.F_law_ended.fn sc__law_ended rfl fun cdv A outer s H E hr => ⟨_, (pds_cons (pd_setD (i := 2) nd rfl (by first | exact Or.inl rfl | exact Or.inr rfl) (g_lzip3 (rfl) (by rfl) (by rfl) T.mlist (by rfl) T.mzip (pda_cons (g_call (rfl) (ok__law_met T) (hr.mono (by decide)) (by rfl) T.F_law_met.g T.F_law_met.fn.kp T.F_law_met.b pass0 (pda_cons (pd_var 0 (pv 0)) (pda_cons (pd_var 1 (pv 1)) pda_nil))) (pda_cons (g_call (rfl) (ok__law_indexes T) (hr.mono (by decide)) (by rfl) T.F_law_indexes.g T.F_law_indexes.fn.kp T.F_law_indexes.b pass0 (pda_cons (pd_var 0 (pv 0)) (pda_cons (pd_var 1 (pv 1)) pda_nil))) (pda_cons (g_ix (rfl) (pd_var 1 (pv 1)) pd_int) pda_nil)))))
      (pds_one (pds_ret (pd_lc (own := [("name", 3), ("piece", 4), ("arc", 5)]) (g := (gSq K 3 (gCons (gName 3) (gCons (gName 4) (gCons (gName 5) gNil))))) (sl := ([3] ++ ([4] ++ ([5] ++ [])))) (wg := (wgTup 3 (wgCons (fun r ρ P => asgD 3 r ρ P) (wgCons (fun r ρ P => asgD 4 r ρ P) (wgCons (fun r ρ P => asgD 5 r ρ P) wgNil))))) rfl nd (gi_seq (rfl) (pd_var 2 (pv 2))) (blkOk_by (N := N__law_ended) (sc := (defScope s__law_ended)) (by decide +kernel)) (fun _ _ _ _ _ => (g_tp (rfl) (n := 3) rfl (pdgs_cons (pg_nm (i := 3) nd rfl (by first | exact Or.inl rfl | exact Or.inr rfl)) (pdgs_cons (pg_nm (i := 4) nd rfl (by first | exact Or.inl rfl | exact Or.inr rfl)) (pdgs_cons (pg_nm (i := 5) nd rfl (by first | exact Or.inl rfl | exact Or.inr rfl)) pdgs_nil))))) (fun _ _ _ _ _ => (pdts_one (gt_ne (rfl) hr.units (g_ix (rfl) (pd_var 5 (pv 5)) pd_int) pd_str))) (fun _ _ _ _ _ => (pd_tup (pda_cons (pd_var 3 (pv 3)) (pda_cons (pd_var 4 (pv 4)) pda_nil)))) (by decide)))))⟩) fun as P _ hv => w__law_ended hv
theorem sc__law_any_hall : FnScope N__law_any_hall ["bag"] (defScope s__law_any_hall) := ⟨rfl, rfl, rfl, by decide +kernel, rfl, by decide +kernel, by decide +kernel⟩
theorem ok__law_any_hall (T : Txt K mg) : FnOk P w K mg base CX0 6 T.fF_law_any_hall T.dF_law_any_hall ["bag"] (spD K 1 V__law_any_hall) := by
  have nd := sc__law_any_hall.nd
  exact ok_imp (wf := W__law_any_hall) (ok_by T.F_law_any_hall.fn sc__law_any_hall rfl fun cdv A outer s H E hr => ⟨_, (pds_cons (pd_setD (i := 1) nd rfl (by first | exact Or.inl rfl | exact Or.inr rfl) (g_call (rfl) (ok__law_some T) (hr.mono (by decide)) (by rfl) T.F_law_some.g T.F_law_some.fn.kp T.F_law_some.b pass0 (pda_cons (pd_var 0 (pv 0)) (pda_cons (pd_lst (pda_cons pd_int (pda_cons pd_int (pda_cons pd_int (pda_cons pd_int (pda_cons pd_int pda_nil)))))) pda_nil))))
      (pds_cons (pd_setD (i := 2) nd rfl (by first | exact Or.inl rfl | exact Or.inr rfl) (g_call (rfl) (ok__law_take T) (hr.mono (by decide)) (by rfl) T.F_law_take.g T.F_law_take.fn.kp T.F_law_take.b pass0 (pda_cons (pd_var 0 (pv 0)) (pda_cons pd_int pda_nil))))
      (pds_cons (pds_if (gt_eq (rfl) hr.units (pd_var 2 (pv 2)) pd_int) (pds_one (pds_ret (g_call (rfl) (ok__law_web T) (hr.mono (by decide)) (by rfl) T.F_law_web.g T.F_law_web.fn.kp T.F_law_web.b pass0 (pda_cons (pd_var 0 (pv 0)) (pda_cons (pd_var 1 (pv 1)) (pda_cons pd_int pda_nil)))))) pds_nil)
      (pds_cons (pds_if (gt_eq (rfl) hr.units (pd_var 2 (pv 2)) pd_int) (pds_one (pds_ret (g_call (rfl) (ok__law_line T) (hr.mono (by decide)) (by rfl) T.F_law_line.g T.F_law_line.fn.kp T.F_law_line.b pass0 (pda_cons (pd_var 0 (pv 0)) (pda_cons (pd_var 1 (pv 1)) (pda_cons pd_int pda_nil)))))) pds_nil)
      (pds_cons (pds_if (gt_eq (rfl) hr.units (pd_var 2 (pv 2)) pd_int) (pds_one (pds_ret (g_call (rfl) (ok__law_tree T) (hr.mono (by decide)) (by rfl) T.F_law_tree.g T.F_law_tree.fn.kp T.F_law_tree.b pass0 (pda_cons (pd_var 0 (pv 0)) (pda_cons (pd_var 1 (pv 1)) (pda_cons pd_int pda_nil)))))) pds_nil)
      (pds_one (pds_ret (g_call (rfl) (ok__law_hall T) (hr.mono (by decide)) (by rfl) T.F_law_hall.g T.F_law_hall.fn.kp T.F_law_hall.b pass0 (pda_cons (pd_var 0 (pv 0)) (pda_cons (pd_var 1 (pv 1)) (pda_cons pd_int pda_nil)))))))))))⟩) fun as P _ hv => w__law_any_hall hv
theorem sc__law_near_way : FnScope N__law_near_way ["bag", "hall", "way"] (defScope s__law_near_way) := ⟨rfl, rfl, rfl, by decide +kernel, rfl, by decide +kernel, by decide +kernel⟩
theorem ok__law_near_way (T : Txt K mg) : FnOk P w K mg base CX0 9 T.fF_law_near_way T.dF_law_near_way ["bag", "hall", "way"] (spD K 3 V__law_near_way) := by
  have nd := sc__law_near_way.nd
  exact ok_imp (wf := W__law_near_way) (ok_by T.F_law_near_way.fn sc__law_near_way rfl fun cdv A outer s H E hr => ⟨_, (pds_cons (pd_asg (pd_var 2 (pv 2)) (g_tp (rfl) (n := 2) rfl (pdgs_cons (pg_nm (i := 3) nd rfl (by first | exact Or.inl rfl | exact Or.inr rfl)) (pdgs_cons (pg_nm (i := 4) nd rfl (by first | exact Or.inl rfl | exact Or.inr rfl)) pdgs_nil))))
      (pds_cons (pd_setO (i := 5) nd rfl (by first | exact Or.inl rfl | exact Or.inr rfl) (pd_lst (pda_cons (pd_tup (pda_cons (pd_var 3 (pv 3)) (pda_cons (g_list (rfl) (by rfl) T.mlist (pda_cons (pd_var 4 (pv 4)) pda_nil)) pda_nil))) (pda_cons (pd_lst (pda_cons (pd_var 3 (pv 3)) (pda_cons (pd_var 4 (pv 4)) pda_nil))) (pda_cons (pd_tup (pda_cons (pd_var 3 (pv 3)) (pda_cons (g_cut (rfl) (pd_var 4 (pv 4)) (pdo_some pd_int) pdo_none) pda_nil))) (pda_cons (pd_tup (pda_cons (pd_var 3 (pv 3)) (pda_cons (g_cut (rfl) (pd_var 4 (pv 4)) pdo_none (pdo_some (pd_neg pd_int))) pda_nil))) (pda_cons (pd_tup (pda_cons (pd_var 3 (pv 3)) (pda_cons (g_add (rfl) (pd_var 4 (pv 4)) (g_cut (rfl) (pd_var 4 (pv 4)) pdo_none (pdo_some pd_int))) pda_nil))) (pda_cons (pd_tup (pda_cons (pd_var 3 (pv 3)) (pda_cons (g_rev (rfl) (pd_var 4 (pv 4))) pda_nil))) (pda_cons (g_add (rfl) (pd_var 2 (pv 2)) (pd_tup pda_nil)) pda_nil)))))))))
      (pds_cons (pd_ext (pv 5) (pd_lst (pda_cons (pd_tup (pda_cons (g_call (rfl) (ok__law_some T) (hr.mono (by decide)) (by rfl) T.F_law_some.g T.F_law_some.fn.kp T.F_law_some.b pass0 (pda_cons (pd_var 0 (pv 0)) (pda_cons (g_add (rfl) (g_call (rfl) (ok__law_names T) (hr.mono (by decide)) (by rfl) T.F_law_names.g T.F_law_names.fn.kp T.F_law_names.b pass0 (pda_cons (pd_var 1 (pv 1)) pda_nil)) (pd_lst (pda_cons pd_str pda_nil))) pda_nil))) (pda_cons (pd_var 4 (pv 4)) pda_nil))) (pda_cons (pd_tup (pda_cons (pd_var 3 (pv 3)) pda_nil)) (pda_cons (pd_tup (pda_cons (pd_var 3 (pv 3)) (pda_cons (pd_var 4 (pv 4)) (pda_cons pd_int pda_nil)))) (pda_cons (pd_tup (pda_cons (pd_var 3 (pv 3)) (pda_cons (g_add (rfl) (pd_tup (pda_cons (pd_tup (pda_cons pd_str (pda_cons pd_bl pda_nil))) pda_nil)) (pd_var 4 (pv 4))) pda_nil))) (pda_cons (pd_var 4 (pv 4)) pda_nil)))))))
      (pds_cons (pd_ext (pv 5) (pd_lst (pda_cons (pd_tup (pda_cons (pd_var 3 (pv 3)) (pda_cons (g_add (rfl) (pd_var 4 (pv 4)) (pd_tup (pda_cons (pd_tup (pda_cons pd_str (pda_cons (pd_var 3 (pv 3)) pda_nil))) pda_nil))) pda_nil))) (pda_cons (pd_tup (pda_cons (pd_var 3 (pv 3)) (pda_cons (pd_tup (pda_cons (pd_tup (pda_cons pd_str (pda_cons pd_int pda_nil))) pda_nil)) pda_nil))) (pda_cons (pd_tup (pda_cons (pd_var 3 (pv 3)) (pda_cons (pd_tup (pda_cons (pd_tup (pda_cons pd_str (pda_cons (pd_neg pd_int) pda_nil))) pda_nil)) pda_nil))) (pda_cons (pd_tup (pda_cons (pd_var 3 (pv 3)) (pda_cons (pd_tup (pda_cons (pd_tup (pda_cons pd_str (pda_cons pd_str pda_nil))) pda_nil)) pda_nil))) (pda_cons pd_non pda_nil)))))))
      (pds_one (pds_ret (g_call (rfl) (ok__law_some T) (hr.mono (by decide)) (by rfl) T.F_law_some.g T.F_law_some.fn.kp T.F_law_some.b pass0 (pda_cons (pd_var 0 (pv 0)) (pda_cons (g_add (rfl) (pd_var 5 (pv 5)) (pd_lst (pda_cons (g_call (rfl) (ok__law_bent T) (hr.mono (by decide)) (by rfl) T.F_law_bent.g T.F_law_bent.fn.kp T.F_law_bent.b pass0 (pda_cons (pd_var 0 (pv 0)) (pda_cons (pd_var 2 (pv 2)) (pda_cons pd_int pda_nil)))) (pda_cons (g_call (rfl) (ok__law_bent T) (hr.mono (by decide)) (by rfl) T.F_law_bent.g T.F_law_bent.fn.kp T.F_law_bent.b pass0 (pda_cons (pd_var 0 (pv 0)) (pda_cons (pd_var 2 (pv 2)) (pda_cons pd_int pda_nil)))) (pda_cons (g_call (rfl) (ok__law_bent T) (hr.mono (by decide)) (by rfl) T.F_law_bent.g T.F_law_bent.fn.kp T.F_law_bent.b pass0 (pda_cons (pd_var 0 (pv 0)) (pda_cons (pd_var 2 (pv 2)) (pda_cons pd_int pda_nil)))) pda_nil))))) pda_nil)))))))))⟩) fun as P _ hv => w__law_near_way hv
theorem sc_law : FnScope N_law14 ["script"] (defScope s_law) := ⟨rfl, rfl, rfl, by decide +kernel, rfl, by decide +kernel, by decide +kernel⟩
theorem ok_law {f : Addr} {fd : FuncData} (F : Fun K "law" "law" s_law f fd) (T : Txt K mg) : FnG P w K mg base 10 f fd ["script"] (Pd.spLaw K) := by
  have nd := sc_law.nd
  refine okG F sc_law (fun vs H Q E h => ?_) (fun cdv A outer s H vs Q E hr gd h => ?_)
  · obtain ⟨a, ns, rfl, _⟩ := h
    rfl
  · obtain ⟨a, ns, rfl, sq, few, fin⟩ := h
    have D : ∃ ts, PDSs (cxOf CX0 P w K mg base N_law14 "law" (defScope s_law) f cdv A outer s H E).nox ((defBody s_law).drop 1) ts ws_law14 := ⟨_, (pds_cons (pds_for PassesOwn.never rfl (gi_rng1 (by rfl) T.mrange (pda_cons pd_int pda_nil)) (pg_nm (i := 2) nd rfl (by first | exact Or.inl rfl | exact Or.inr rfl))
      (pds_cons (pd_setD (i := 3) nd rfl (by first | exact Or.inl rfl | exact Or.inr rfl) (g_call (rfl) (ok__law_any_hall T) (hr.mono (by decide)) (by rfl) T.F_law_any_hall.g T.F_law_any_hall.fn.kp T.F_law_any_hall.b pass0 (pda_cons (pd_var 1 (pv 1)) pda_nil)))
      (pds_one (pds_for PassesOwn.never rfl (gi_rng1 (by rfl) T.mrange (pda_cons pd_int pda_nil)) (pg_nm (i := 4) nd rfl (by first | exact Or.inl rfl | exact Or.inr rfl))
      (pds_cons (pd_setD (i := 5) nd rfl (by first | exact Or.inl rfl | exact Or.inr rfl) (g_call (rfl) (ok__law_some T) (hr.mono (by decide)) (by rfl) T.F_law_some.g T.F_law_some.fn.kp T.F_law_some.b pass0 (pda_cons (pd_var 1 (pv 1)) (pda_cons (pd_lst (pda_cons (g_call (rfl) (ok__law_way T) (hr.mono (by decide)) (by rfl) T.F_law_way.g T.F_law_way.fn.kp T.F_law_way.b pass0 (pda_cons (pd_var 1 (pv 1)) (pda_cons (pd_var 3 (pv 3)) (pda_cons pd_int pda_nil)))) (pda_cons (g_call (rfl) (ok__law_walk T) (hr.mono (by decide)) (by rfl) T.F_law_walk.g T.F_law_walk.fn.kp T.F_law_walk.b pass0 (pda_cons (pd_var 1 (pv 1)) (pda_cons (pd_var 3 (pv 3)) (pda_cons pd_int pda_nil)))) pda_nil))) pda_nil))))
      (pds_cons (pd_setD (i := 6) nd rfl (by first | exact Or.inl rfl | exact Or.inr rfl) (pd_if (pdt_cmp od_lt (pd_var 4 (pv 4)) pd_int (nomark _)) (pd_var 5 (pv 5)) (g_call (rfl) (ok__law_near_way T) (hr.mono (by decide)) (by rfl) T.F_law_near_way.g T.F_law_near_way.fn.kp T.F_law_near_way.b pass0 (pda_cons (pd_var 1 (pv 1)) (pda_cons (pd_var 3 (pv 3)) (pda_cons (pd_var 5 (pv 5)) pda_nil))))))
      (pds_cons (pd_setD (i := 7) nd rfl (by first | exact Or.inl rfl | exact Or.inr rfl) (g_repr (rfl) hr.units gd (by rfl) T.mrepr (pda_cons (pd_lst (pda_cons (pd_var 3 (pv 3)) (pda_cons (pd_var 6 (pv 6)) pda_nil))) pda_nil)))
      (pds_cons (pd_setD (i := 8) nd rfl (by first | exact Or.inl rfl | exact Or.inr rfl) (pd_lst (pda_cons (g_call (rfl) (ok__law_is_way T) (hr.mono (by decide)) (by rfl) T.F_law_is_way.g T.F_law_is_way.fn.kp T.F_law_is_way.b pass0 (pda_cons (pd_var 3 (pv 3)) (pda_cons (pd_var 6 (pv 6)) pda_nil))) (pda_cons (g_call (rfl) (ok__law_is_walk T) (hr.mono (by decide)) (by rfl) T.F_law_is_walk.g T.F_law_is_walk.fn.kp T.F_law_is_walk.b pass0 (pda_cons (pd_var 3 (pv 3)) (pda_cons (pd_var 6 (pv 6)) pda_nil))) pda_nil))))
      (pds_cons (pds_if (pdw_t (pdw_or (pdt_not (gt_tru (rfl) (g_callG (rfl) (ok__law_alike T) (hr.mono (by decide)) gd (by rfl) T.F_law_alike.g T.F_law_alike.fn.kp T.F_law_alike.b (pda_cons (pd_lst (pda_cons (g_call (rfl) (ok_is_way T) (hr.mono (by decide)) (by rfl) T.F_is_way.g T.F_is_way.fn.kp T.F_is_way.b pass0 (pda_cons (pd_var 3 (pv 3)) (pda_cons (pd_var 6 (pv 6)) pda_nil))) (pda_cons (g_call (rfl) (ok_is_walk T) (hr.mono (by decide)) (by rfl) T.F_is_walk.g T.F_is_walk.fn.kp T.F_is_walk.b pass0 (pda_cons (pd_var 3 (pv 3)) (pda_cons (pd_var 6 (pv 6)) pda_nil))) pda_nil))) (pda_cons (pd_var 8 (pv 8)) pda_nil))))) (pdw_or1 (gt_ne (rfl) hr.units (g_repr (rfl) hr.units gd (by rfl) T.mrepr (pda_cons (pd_lst (pda_cons (pd_var 3 (pv 3)) (pda_cons (pd_var 6 (pv 6)) pda_nil))) pda_nil)) (pd_var 7 (pv 7)))))) (pds_one (pds_ret pd_bl)) pds_nil)
      (pds_one (pds_if (gt_tru (rfl) (g_ix (rfl) (pd_var 8 (pv 8)) pd_int)) (pds_cons (pd_setD (i := 9) nd rfl (by first | exact Or.inl rfl | exact Or.inr rfl) (g_call (rfl) (ok__law_indexes T) (hr.mono (by decide)) (by rfl) T.F_law_indexes.g T.F_law_indexes.fn.kp T.F_law_indexes.b pass0 (pda_cons (pd_var 3 (pv 3)) (pda_cons (pd_var 6 (pv 6)) pda_nil))))
      (pds_cons (pd_setD (i := 10) nd rfl (by first | exact Or.inl rfl | exact Or.inr rfl) (pd_lst (pda_cons (g_call (rfl) (ok_end_of_way T) (hr.mono (by decide)) (by rfl) T.F_end_of_way.g T.F_end_of_way.fn.kp T.F_end_of_way.b pass0 (pda_cons (pd_var 3 (pv 3)) (pda_cons (pd_var 6 (pv 6)) pda_nil))) (pda_cons (g_call (rfl) (ok_indexes T) (hr.mono (by decide)) (by rfl) T.F_indexes.g T.F_indexes.fn.kp T.F_indexes.b pass0 (pda_cons (pd_var 3 (pv 3)) (pda_cons (pd_var 6 (pv 6)) pda_nil))) (pda_cons (g_call (rfl) (ok_index_of T) (hr.mono (by decide)) (by rfl) T.F_index_of.g T.F_index_of.fn.kp T.F_index_of.b pass0 (pda_cons (pd_var 3 (pv 3)) (pda_cons (pd_var 6 (pv 6)) pda_nil))) (pda_cons (g_call (rfl) (ok_ended T) (hr.mono (by decide)) (by rfl) T.F_ended.g T.F_ended.fn.kp T.F_ended.b pass0 (pda_cons (pd_var 3 (pv 3)) (pda_cons (pd_var 6 (pv 6)) pda_nil))) pda_nil))))))
      (pds_one (pds_if (pdt_not (gt_tru (rfl) (g_callG (rfl) (ok__law_alike T) (hr.mono (by decide)) gd (by rfl) T.F_law_alike.g T.F_law_alike.fn.kp T.F_law_alike.b (pda_cons (pd_var 10 (pv 10)) (pda_cons (pd_lst (pda_cons (g_ix (rfl) (g_call (rfl) (ok__law_met T) (hr.mono (by decide)) (by rfl) T.F_law_met.g T.F_law_met.fn.kp T.F_law_met.b pass0 (pda_cons (pd_var 3 (pv 3)) (pda_cons (pd_var 6 (pv 6)) pda_nil))) (pd_neg pd_int)) (pda_cons (g_tuple (rfl) (by rfl) T.mtuple (pda_cons (pd_var 9 (pv 9)) pda_nil)) (pda_cons (g_ix (rfl) (pd_var 9 (pv 9)) (pd_neg pd_int)) (pda_cons (g_tuple (rfl) (by rfl) T.mtuple (pda_cons (g_call (rfl) (ok__law_ended T) (hr.mono (by decide)) (by rfl) T.F_law_ended.g T.F_law_ended.fn.kp T.F_law_ended.b pass0 (pda_cons (pd_var 3 (pv 3)) (pda_cons (pd_var 6 (pv 6)) pda_nil))) pda_nil)) pda_nil))))) pda_nil))))) (pds_one (pds_ret pd_bl)) pds_nil)))) pds_nil)))))))))))
      (pds_one (pds_ret pd_bl)))⟩
    obtain ⟨ts, D⟩ := D
    refine ⟨_, pss_cons (ps_set (i := 1) nd rfl (Or.inl rfl) (pe_call (ok_bag T.F_law_bag.fn T.mabs) (hr.mono (by decide)) (by rfl) T.F_law_bag.g T.F_law_bag.fn.kp T.F_law_bag.b .nil pass0 (pa_cons (pv 0) pa_nil))) D.pss, ?_⟩
    exact ⟨_, rfl, a, ns, rfl, sq, few, fun H1 b same fresh bag => law_go (ts := ts) (k := 9) (v0 := some (.ref a)) (Q := Q) D.snd bag w_law14 fin⟩
end
end K14

namespace K14
open PySem PySem.Spec PyProof.Rows L2 Vd Pd Cm
theorem all_mk {P : Program} {w : World} {K : PySem.W.Frag} {h : Heap} {mg : Str → Option Value} {fa : Addr} (X : K.In h) (G : h.Ns mainGlobals mg) (hfa : mg "law" = some (.ref fa))
    {f_names_of : Addr} {od_names_of an_names_of : Option Addr} {sl_names_of : Array (Option Value)} {oc_names_of kV_names_of dc_names_of pm_names_of cd_names_of ct_names_of : Value}
    {f_start_of : Addr} {od_start_of an_start_of : Option Addr} {sl_start_of : Array (Option Value)} {oc_start_of kV_start_of dc_start_of pm_start_of cd_start_of ct_start_of : Value}
    {f_end_of : Addr} {od_end_of an_end_of : Option Addr} {sl_end_of : Array (Option Value)} {oc_end_of kV_end_of dc_end_of pm_end_of cd_end_of ct_end_of : Value}
    {f_growth_of : Addr} {od_growth_of an_growth_of : Option Addr} {sl_growth_of : Array (Option Value)} {oc_growth_of kV_growth_of dc_growth_of pm_growth_of cd_growth_of ct_growth_of : Value}
    {f_does_end : Addr} {od_does_end an_does_end : Option Addr} {sl_does_end : Array (Option Value)} {oc_does_end kV_does_end dc_does_end pm_does_end cd_does_end ct_does_end : Value}
    {f_is_tuple_of : Addr} {od_is_tuple_of an_is_tuple_of : Option Addr} {sl_is_tuple_of : Array (Option Value)} {oc_is_tuple_of kV_is_tuple_of dc_is_tuple_of pm_is_tuple_of cd_is_tuple_of ct_is_tuple_of : Value}
    {f_is_integer : Addr} {od_is_integer an_is_integer : Option Addr} {sl_is_integer : Array (Option Value)} {oc_is_integer kV_is_integer dc_is_integer pm_is_integer cd_is_integer ct_is_integer : Value}
    {f_is_count : Addr} {od_is_count an_is_count : Option Addr} {sl_is_count : Array (Option Value)} {oc_is_count kV_is_count dc_is_count pm_is_count cd_is_count ct_is_count : Value}
    {f_is_name : Addr} {od_is_name an_is_name : Option Addr} {sl_is_name : Array (Option Value)} {oc_is_name kV_is_name dc_is_name pm_is_name cd_is_name ct_is_name : Value}
    {f_is_arc : Addr} {od_is_arc an_is_arc : Option Addr} {sl_is_arc : Array (Option Value)} {oc_is_arc kV_is_arc dc_is_arc pm_is_arc cd_is_arc ct_is_arc : Value}
    {f_is_way : Addr} {od_is_way an_is_way : Option Addr} {sl_is_way : Array (Option Value)} {oc_is_way kV_is_way dc_is_way pm_is_way cd_is_way ct_is_way : Value}
    {f_is_walk : Addr} {od_is_walk an_is_walk : Option Addr} {sl_is_walk : Array (Option Value)} {oc_is_walk kV_is_walk dc_is_walk pm_is_walk cd_is_walk ct_is_walk : Value}
    {f_end_of_way : Addr} {od_end_of_way an_end_of_way : Option Addr} {sl_end_of_way : Array (Option Value)} {oc_end_of_way kV_end_of_way dc_end_of_way pm_end_of_way cd_end_of_way ct_end_of_way : Value}
    {f_indexes : Addr} {od_indexes an_indexes : Option Addr} {sl_indexes : Array (Option Value)} {oc_indexes kV_indexes dc_indexes pm_indexes cd_indexes ct_indexes : Value}
    {f_index_of : Addr} {od_index_of an_index_of : Option Addr} {sl_index_of : Array (Option Value)} {oc_index_of kV_index_of dc_index_of pm_index_of cd_index_of ct_index_of : Value}
    {f_ended : Addr} {od_ended an_ended : Option Addr} {sl_ended : Array (Option Value)} {oc_ended kV_ended dc_ended pm_ended cd_ended ct_ended : Value}
    {f_law_bag : Addr} {od_law_bag an_law_bag : Option Addr} {sl_law_bag : Array (Option Value)} {oc_law_bag kV_law_bag dc_law_bag pm_law_bag cd_law_bag ct_law_bag : Value}
    {f_law_take : Addr} {od_law_take an_law_take : Option Addr} {sl_law_take : Array (Option Value)} {oc_law_take kV_law_take dc_law_take pm_law_take cd_law_take ct_law_take : Value}
    {f_law_some : Addr} {od_law_some an_law_some : Option Addr} {sl_law_some : Array (Option Value)} {oc_law_some kV_law_some dc_law_some pm_law_some cd_law_some ct_law_some : Value}
    {f_law_mixed : Addr} {od_law_mixed an_law_mixed : Option Addr} {sl_law_mixed : Array (Option Value)} {oc_law_mixed kV_law_mixed dc_law_mixed pm_law_mixed cd_law_mixed ct_law_mixed : Value}
    {f_law_alike : Addr} {od_law_alike an_law_alike : Option Addr} {sl_law_alike : Array (Option Value)} {oc_law_alike kV_law_alike dc_law_alike pm_law_alike cd_law_alike ct_law_alike : Value}
    {f_law_is_int : Addr} {od_law_is_int an_law_is_int : Option Addr} {sl_law_is_int : Array (Option Value)} {oc_law_is_int kV_law_is_int dc_law_is_int pm_law_is_int cd_law_is_int ct_law_is_int : Value}
    {f_law_names : Addr} {od_law_names an_law_names : Option Addr} {sl_law_names : Array (Option Value)} {oc_law_names kV_law_names dc_law_names pm_law_names cd_law_names ct_law_names : Value}
    {f_law_arcs : Addr} {od_law_arcs an_law_arcs : Option Addr} {sl_law_arcs : Array (Option Value)} {oc_law_arcs kV_law_arcs dc_law_arcs pm_law_arcs cd_law_arcs ct_law_arcs : Value}
    {f_law_is_live : Addr} {od_law_is_live an_law_is_live : Option Addr} {sl_law_is_live : Array (Option Value)} {oc_law_is_live kV_law_is_live dc_law_is_live pm_law_is_live cd_law_is_live ct_law_is_live : Value}
    {f_law_purses : Addr} {od_law_purses an_law_purses : Option Addr} {sl_law_purses : Array (Option Value)} {oc_law_purses kV_law_purses dc_law_purses pm_law_purses cd_law_purses ct_law_purses : Value}
    {f_law_first : Addr} {od_law_first an_law_first : Option Addr} {sl_law_first : Array (Option Value)} {oc_law_first kV_law_first dc_law_first pm_law_first cd_law_first ct_law_first : Value}
    {f_law_web : Addr} {od_law_web an_law_web : Option Addr} {sl_law_web : Array (Option Value)} {oc_law_web kV_law_web dc_law_web pm_law_web cd_law_web ct_law_web : Value}
    {f_law_hall : Addr} {od_law_hall an_law_hall : Option Addr} {sl_law_hall : Array (Option Value)} {oc_law_hall kV_law_hall dc_law_hall pm_law_hall cd_law_hall ct_law_hall : Value}
    {f_law_line : Addr} {od_law_line an_law_line : Option Addr} {sl_law_line : Array (Option Value)} {oc_law_line kV_law_line dc_law_line pm_law_line cd_law_line ct_law_line : Value}
    {f_law_tree : Addr} {od_law_tree an_law_tree : Option Addr} {sl_law_tree : Array (Option Value)} {oc_law_tree kV_law_tree dc_law_tree pm_law_tree cd_law_tree ct_law_tree : Value}
    {f_law_way : Addr} {od_law_way an_law_way : Option Addr} {sl_law_way : Array (Option Value)} {oc_law_way kV_law_way dc_law_way pm_law_way cd_law_way ct_law_way : Value}
    {f_law_home : Addr} {od_law_home an_law_home : Option Addr} {sl_law_home : Array (Option Value)} {oc_law_home kV_law_home dc_law_home pm_law_home cd_law_home ct_law_home : Value}
    {f_law_walk : Addr} {od_law_walk an_law_walk : Option Addr} {sl_law_walk : Array (Option Value)} {oc_law_walk kV_law_walk dc_law_walk pm_law_walk cd_law_walk ct_law_walk : Value}
    {f_law_odd : Addr} {od_law_odd an_law_odd : Option Addr} {sl_law_odd : Array (Option Value)} {oc_law_odd kV_law_odd dc_law_odd pm_law_odd cd_law_odd ct_law_odd : Value}
    {f_law_bent : Addr} {od_law_bent an_law_bent : Option Addr} {sl_law_bent : Array (Option Value)} {oc_law_bent kV_law_bent dc_law_bent pm_law_bent cd_law_bent ct_law_bent : Value}
    {f_law_is_arc : Addr} {od_law_is_arc an_law_is_arc : Option Addr} {sl_law_is_arc : Array (Option Value)} {oc_law_is_arc kV_law_is_arc dc_law_is_arc pm_law_is_arc cd_law_is_arc ct_law_is_arc : Value}
    {f_law_end : Addr} {od_law_end an_law_end : Option Addr} {sl_law_end : Array (Option Value)} {oc_law_end kV_law_end dc_law_end pm_law_end cd_law_end ct_law_end : Value}
    {f_law_growth : Addr} {od_law_growth an_law_growth : Option Addr} {sl_law_growth : Array (Option Value)} {oc_law_growth kV_law_growth dc_law_growth pm_law_growth cd_law_growth ct_law_growth : Value}
    {f_law_is_way : Addr} {od_law_is_way an_law_is_way : Option Addr} {sl_law_is_way : Array (Option Value)} {oc_law_is_way kV_law_is_way dc_law_is_way pm_law_is_way cd_law_is_way ct_law_is_way : Value}
    {f_law_met : Addr} {od_law_met an_law_met : Option Addr} {sl_law_met : Array (Option Value)} {oc_law_met kV_law_met dc_law_met pm_law_met cd_law_met ct_law_met : Value}
    {f_law_is_walk : Addr} {od_law_is_walk an_law_is_walk : Option Addr} {sl_law_is_walk : Array (Option Value)} {oc_law_is_walk kV_law_is_walk dc_law_is_walk pm_law_is_walk cd_law_is_walk ct_law_is_walk : Value}
    {f_law_indexes : Addr} {od_law_indexes an_law_indexes : Option Addr} {sl_law_indexes : Array (Option Value)} {oc_law_indexes kV_law_indexes dc_law_indexes pm_law_indexes cd_law_indexes ct_law_indexes : Value}
    {f_law_ended : Addr} {od_law_ended an_law_ended : Option Addr} {sl_law_ended : Array (Option Value)} {oc_law_ended kV_law_ended dc_law_ended pm_law_ended cd_law_ended ct_law_ended : Value}
    {f_law_any_hall : Addr} {od_law_any_hall an_law_any_hall : Option Addr} {sl_law_any_hall : Array (Option Value)} {oc_law_any_hall kV_law_any_hall dc_law_any_hall pm_law_any_hall cd_law_any_hall ct_law_any_hall : Value}
    {f_law_near_way : Addr} {od_law_near_way an_law_near_way : Option Addr} {sl_law_near_way : Array (Option Value)} {oc_law_near_way kV_law_near_way dc_law_near_way pm_law_near_way cd_law_near_way ct_law_near_way : Value}
    {f_law : Addr} {od_law an_law : Option Addr} {sl_law : Array (Option Value)} {oc_law kV_law dc_law pm_law cd_law ct_law : Value}
    (a_names_of : PySem.W.nsIn K mainGlobals "names_of" = some (some (.ref f_names_of)))
    (l_names_of : K.lookup f_names_of = some ⟨oc_names_of, od_names_of, .func (PySem.W.fnOf "names_of" "names_of" (defArgs (topS 1)) (defBody (topS 1)) (defScope (topS 1)) .none kV_names_of dc_names_of pm_names_of an_names_of cd_names_of ct_names_of), sl_names_of⟩)
    (c_names_of : PySem.W.codeIn K cd_names_of "names_of" = true)
    (k_names_of : PySem.W.keepIn K (.ref f_names_of) = true)
    (a_start_of : PySem.W.nsIn K mainGlobals "start_of" = some (some (.ref f_start_of)))
    (l_start_of : K.lookup f_start_of = some ⟨oc_start_of, od_start_of, .func (PySem.W.fnOf "start_of" "start_of" (defArgs (topS 3)) (defBody (topS 3)) (defScope (topS 3)) .none kV_start_of dc_start_of pm_start_of an_start_of cd_start_of ct_start_of), sl_start_of⟩)
    (c_start_of : PySem.W.codeIn K cd_start_of "start_of" = true)
    (k_start_of : PySem.W.keepIn K (.ref f_start_of) = true)
    (a_end_of : PySem.W.nsIn K mainGlobals "end_of" = some (some (.ref f_end_of)))
    (l_end_of : K.lookup f_end_of = some ⟨oc_end_of, od_end_of, .func (PySem.W.fnOf "end_of" "end_of" (defArgs (topS 4)) (defBody (topS 4)) (defScope (topS 4)) .none kV_end_of dc_end_of pm_end_of an_end_of cd_end_of ct_end_of), sl_end_of⟩)
    (c_end_of : PySem.W.codeIn K cd_end_of "end_of" = true)
    (k_end_of : PySem.W.keepIn K (.ref f_end_of) = true)
    (a_growth_of : PySem.W.nsIn K mainGlobals "growth_of" = some (some (.ref f_growth_of)))
    (l_growth_of : K.lookup f_growth_of = some ⟨oc_growth_of, od_growth_of, .func (PySem.W.fnOf "growth_of" "growth_of" (defArgs (topS 5)) (defBody (topS 5)) (defScope (topS 5)) .none kV_growth_of dc_growth_of pm_growth_of an_growth_of cd_growth_of ct_growth_of), sl_growth_of⟩)
    (c_growth_of : PySem.W.codeIn K cd_growth_of "growth_of" = true)
    (k_growth_of : PySem.W.keepIn K (.ref f_growth_of) = true)
    (a_does_end : PySem.W.nsIn K mainGlobals "does_end" = some (some (.ref f_does_end)))
    (l_does_end : K.lookup f_does_end = some ⟨oc_does_end, od_does_end, .func (PySem.W.fnOf "does_end" "does_end" (defArgs (topS 6)) (defBody (topS 6)) (defScope (topS 6)) .none kV_does_end dc_does_end pm_does_end an_does_end cd_does_end ct_does_end), sl_does_end⟩)
    (c_does_end : PySem.W.codeIn K cd_does_end "does_end" = true)
    (k_does_end : PySem.W.keepIn K (.ref f_does_end) = true)
    (a_is_tuple_of : PySem.W.nsIn K mainGlobals "is_tuple_of" = some (some (.ref f_is_tuple_of)))
    (l_is_tuple_of : K.lookup f_is_tuple_of = some ⟨oc_is_tuple_of, od_is_tuple_of, .func (PySem.W.fnOf "is_tuple_of" "is_tuple_of" (defArgs (topS 8)) (defBody (topS 8)) (defScope (topS 8)) .none kV_is_tuple_of dc_is_tuple_of pm_is_tuple_of an_is_tuple_of cd_is_tuple_of ct_is_tuple_of), sl_is_tuple_of⟩)
    (c_is_tuple_of : PySem.W.codeIn K cd_is_tuple_of "is_tuple_of" = true)
    (k_is_tuple_of : PySem.W.keepIn K (.ref f_is_tuple_of) = true)
    (a_is_integer : PySem.W.nsIn K mainGlobals "is_integer" = some (some (.ref f_is_integer)))
    (l_is_integer : K.lookup f_is_integer = some ⟨oc_is_integer, od_is_integer, .func (PySem.W.fnOf "is_integer" "is_integer" (defArgs (topS 9)) (defBody (topS 9)) (defScope (topS 9)) .none kV_is_integer dc_is_integer pm_is_integer an_is_integer cd_is_integer ct_is_integer), sl_is_integer⟩)
    (c_is_integer : PySem.W.codeIn K cd_is_integer "is_integer" = true)
    (k_is_integer : PySem.W.keepIn K (.ref f_is_integer) = true)
    (a_is_count : PySem.W.nsIn K mainGlobals "is_count" = some (some (.ref f_is_count)))
    (l_is_count : K.lookup f_is_count = some ⟨oc_is_count, od_is_count, .func (PySem.W.fnOf "is_count" "is_count" (defArgs (topS 10)) (defBody (topS 10)) (defScope (topS 10)) .none kV_is_count dc_is_count pm_is_count an_is_count cd_is_count ct_is_count), sl_is_count⟩)
    (c_is_count : PySem.W.codeIn K cd_is_count "is_count" = true)
    (k_is_count : PySem.W.keepIn K (.ref f_is_count) = true)
    (a_is_name : PySem.W.nsIn K mainGlobals "is_name" = some (some (.ref f_is_name)))
    (l_is_name : K.lookup f_is_name = some ⟨oc_is_name, od_is_name, .func (PySem.W.fnOf "is_name" "is_name" (defArgs (topS 11)) (defBody (topS 11)) (defScope (topS 11)) .none kV_is_name dc_is_name pm_is_name an_is_name cd_is_name ct_is_name), sl_is_name⟩)
    (c_is_name : PySem.W.codeIn K cd_is_name "is_name" = true)
    (k_is_name : PySem.W.keepIn K (.ref f_is_name) = true)
    (a_is_arc : PySem.W.nsIn K mainGlobals "is_arc" = some (some (.ref f_is_arc)))
    (l_is_arc : K.lookup f_is_arc = some ⟨oc_is_arc, od_is_arc, .func (PySem.W.fnOf "is_arc" "is_arc" (defArgs (topS 12)) (defBody (topS 12)) (defScope (topS 12)) .none kV_is_arc dc_is_arc pm_is_arc an_is_arc cd_is_arc ct_is_arc), sl_is_arc⟩)
    (c_is_arc : PySem.W.codeIn K cd_is_arc "is_arc" = true)
    (k_is_arc : PySem.W.keepIn K (.ref f_is_arc) = true)
    (a_is_way : PySem.W.nsIn K mainGlobals "is_way" = some (some (.ref f_is_way)))
    (l_is_way : K.lookup f_is_way = some ⟨oc_is_way, od_is_way, .func (PySem.W.fnOf "is_way" "is_way" (defArgs (topS 14)) (defBody (topS 14)) (defScope (topS 14)) .none kV_is_way dc_is_way pm_is_way an_is_way cd_is_way ct_is_way), sl_is_way⟩)
    (c_is_way : PySem.W.codeIn K cd_is_way "is_way" = true)
    (k_is_way : PySem.W.keepIn K (.ref f_is_way) = true)
    (a_is_walk : PySem.W.nsIn K mainGlobals "is_walk" = some (some (.ref f_is_walk)))
    (l_is_walk : K.lookup f_is_walk = some ⟨oc_is_walk, od_is_walk, .func (PySem.W.fnOf "is_walk" "is_walk" (defArgs (topS 15)) (defBody (topS 15)) (defScope (topS 15)) .none kV_is_walk dc_is_walk pm_is_walk an_is_walk cd_is_walk ct_is_walk), sl_is_walk⟩)
    (c_is_walk : PySem.W.codeIn K cd_is_walk "is_walk" = true)
    (k_is_walk : PySem.W.keepIn K (.ref f_is_walk) = true)
    (a_end_of_way : PySem.W.nsIn K mainGlobals "end_of_way" = some (some (.ref f_end_of_way)))
    (l_end_of_way : K.lookup f_end_of_way = some ⟨oc_end_of_way, od_end_of_way, .func (PySem.W.fnOf "end_of_way" "end_of_way" (defArgs (topS 16)) (defBody (topS 16)) (defScope (topS 16)) .none kV_end_of_way dc_end_of_way pm_end_of_way an_end_of_way cd_end_of_way ct_end_of_way), sl_end_of_way⟩)
    (c_end_of_way : PySem.W.codeIn K cd_end_of_way "end_of_way" = true)
    (k_end_of_way : PySem.W.keepIn K (.ref f_end_of_way) = true)
    (a_indexes : PySem.W.nsIn K mainGlobals "indexes" = some (some (.ref f_indexes)))
    (l_indexes : K.lookup f_indexes = some ⟨oc_indexes, od_indexes, .func (PySem.W.fnOf "indexes" "indexes" (defArgs (topS 17)) (defBody (topS 17)) (defScope (topS 17)) .none kV_indexes dc_indexes pm_indexes an_indexes cd_indexes ct_indexes), sl_indexes⟩)
    (c_indexes : PySem.W.codeIn K cd_indexes "indexes" = true)
    (k_indexes : PySem.W.keepIn K (.ref f_indexes) = true)
    (a_index_of : PySem.W.nsIn K mainGlobals "index_of" = some (some (.ref f_index_of)))
    (l_index_of : K.lookup f_index_of = some ⟨oc_index_of, od_index_of, .func (PySem.W.fnOf "index_of" "index_of" (defArgs (topS 18)) (defBody (topS 18)) (defScope (topS 18)) .none kV_index_of dc_index_of pm_index_of an_index_of cd_index_of ct_index_of), sl_index_of⟩)
    (c_index_of : PySem.W.codeIn K cd_index_of "index_of" = true)
    (k_index_of : PySem.W.keepIn K (.ref f_index_of) = true)
    (a_ended : PySem.W.nsIn K mainGlobals "ended" = some (some (.ref f_ended)))
    (l_ended : K.lookup f_ended = some ⟨oc_ended, od_ended, .func (PySem.W.fnOf "ended" "ended" (defArgs (topS 19)) (defBody (topS 19)) (defScope (topS 19)) .none kV_ended dc_ended pm_ended an_ended cd_ended ct_ended), sl_ended⟩)
    (c_ended : PySem.W.codeIn K cd_ended "ended" = true)
    (k_ended : PySem.W.keepIn K (.ref f_ended) = true)
    (a_law_bag : PySem.W.nsIn K mainGlobals "_law_bag" = some (some (.ref f_law_bag)))
    (l_law_bag : K.lookup f_law_bag = some ⟨oc_law_bag, od_law_bag, .func (PySem.W.fnOf "_law_bag" "_law_bag" (defArgs (topS 21)) (defBody (topS 21)) (defScope (topS 21)) .none kV_law_bag dc_law_bag pm_law_bag an_law_bag cd_law_bag ct_law_bag), sl_law_bag⟩)
    (c_law_bag : PySem.W.codeIn K cd_law_bag "_law_bag" = true)
    (k_law_bag : PySem.W.keepIn K (.ref f_law_bag) = true)
    (a_law_take : PySem.W.nsIn K mainGlobals "_law_take" = some (some (.ref f_law_take)))
    (l_law_take : K.lookup f_law_take = some ⟨oc_law_take, od_law_take, .func (PySem.W.fnOf "_law_take" "_law_take" (defArgs (topS 22)) (defBody (topS 22)) (defScope (topS 22)) .none kV_law_take dc_law_take pm_law_take an_law_take cd_law_take ct_law_take), sl_law_take⟩)
    (c_law_take : PySem.W.codeIn K cd_law_take "_law_take" = true)
    (k_law_take : PySem.W.keepIn K (.ref f_law_take) = true)
    (a_law_some : PySem.W.nsIn K mainGlobals "_law_some" = some (some (.ref f_law_some)))
    (l_law_some : K.lookup f_law_some = some ⟨oc_law_some, od_law_some, .func (PySem.W.fnOf "_law_some" "_law_some" (defArgs (topS 23)) (defBody (topS 23)) (defScope (topS 23)) .none kV_law_some dc_law_some pm_law_some an_law_some cd_law_some ct_law_some), sl_law_some⟩)
    (c_law_some : PySem.W.codeIn K cd_law_some "_law_some" = true)
    (k_law_some : PySem.W.keepIn K (.ref f_law_some) = true)
    (a_law_mixed : PySem.W.nsIn K mainGlobals "_law_mixed" = some (some (.ref f_law_mixed)))
    (l_law_mixed : K.lookup f_law_mixed = some ⟨oc_law_mixed, od_law_mixed, .func (PySem.W.fnOf "_law_mixed" "_law_mixed" (defArgs (topS 24)) (defBody (topS 24)) (defScope (topS 24)) .none kV_law_mixed dc_law_mixed pm_law_mixed an_law_mixed cd_law_mixed ct_law_mixed), sl_law_mixed⟩)
    (c_law_mixed : PySem.W.codeIn K cd_law_mixed "_law_mixed" = true)
    (k_law_mixed : PySem.W.keepIn K (.ref f_law_mixed) = true)
    (a_law_alike : PySem.W.nsIn K mainGlobals "_law_alike" = some (some (.ref f_law_alike)))
    (l_law_alike : K.lookup f_law_alike = some ⟨oc_law_alike, od_law_alike, .func (PySem.W.fnOf "_law_alike" "_law_alike" (defArgs (topS 25)) (defBody (topS 25)) (defScope (topS 25)) .none kV_law_alike dc_law_alike pm_law_alike an_law_alike cd_law_alike ct_law_alike), sl_law_alike⟩)
    (c_law_alike : PySem.W.codeIn K cd_law_alike "_law_alike" = true)
    (k_law_alike : PySem.W.keepIn K (.ref f_law_alike) = true)
    (a_law_is_int : PySem.W.nsIn K mainGlobals "_law_is_int" = some (some (.ref f_law_is_int)))
    (l_law_is_int : K.lookup f_law_is_int = some ⟨oc_law_is_int, od_law_is_int, .func (PySem.W.fnOf "_law_is_int" "_law_is_int" (defArgs (topS 26)) (defBody (topS 26)) (defScope (topS 26)) .none kV_law_is_int dc_law_is_int pm_law_is_int an_law_is_int cd_law_is_int ct_law_is_int), sl_law_is_int⟩)
    (c_law_is_int : PySem.W.codeIn K cd_law_is_int "_law_is_int" = true)
    (k_law_is_int : PySem.W.keepIn K (.ref f_law_is_int) = true)
    (a_law_names : PySem.W.nsIn K mainGlobals "_law_names" = some (some (.ref f_law_names)))
    (l_law_names : K.lookup f_law_names = some ⟨oc_law_names, od_law_names, .func (PySem.W.fnOf "_law_names" "_law_names" (defArgs (topS 27)) (defBody (topS 27)) (defScope (topS 27)) .none kV_law_names dc_law_names pm_law_names an_law_names cd_law_names ct_law_names), sl_law_names⟩)
    (c_law_names : PySem.W.codeIn K cd_law_names "_law_names" = true)
    (k_law_names : PySem.W.keepIn K (.ref f_law_names) = true)
    (a_law_arcs : PySem.W.nsIn K mainGlobals "_law_arcs" = some (some (.ref f_law_arcs)))
    (l_law_arcs : K.lookup f_law_arcs = some ⟨oc_law_arcs, od_law_arcs, .func (PySem.W.fnOf "_law_arcs" "_law_arcs" (defArgs (topS 28)) (defBody (topS 28)) (defScope (topS 28)) .none kV_law_arcs dc_law_arcs pm_law_arcs an_law_arcs cd_law_arcs ct_law_arcs), sl_law_arcs⟩)
    (c_law_arcs : PySem.W.codeIn K cd_law_arcs "_law_arcs" = true)
    (k_law_arcs : PySem.W.keepIn K (.ref f_law_arcs) = true)
    (a_law_is_live : PySem.W.nsIn K mainGlobals "_law_is_live" = some (some (.ref f_law_is_live)))
    (l_law_is_live : K.lookup f_law_is_live = some ⟨oc_law_is_live, od_law_is_live, .func (PySem.W.fnOf "_law_is_live" "_law_is_live" (defArgs (topS 29)) (defBody (topS 29)) (defScope (topS 29)) .none kV_law_is_live dc_law_is_live pm_law_is_live an_law_is_live cd_law_is_live ct_law_is_live), sl_law_is_live⟩)
    (c_law_is_live : PySem.W.codeIn K cd_law_is_live "_law_is_live" = true)
    (k_law_is_live : PySem.W.keepIn K (.ref f_law_is_live) = true)
    (a_law_purses : PySem.W.nsIn K mainGlobals "_law_purses" = some (some (.ref f_law_purses)))
    (l_law_purses : K.lookup f_law_purses = some ⟨oc_law_purses, od_law_purses, .func (PySem.W.fnOf "_law_purses" "_law_purses" (defArgs (topS 30)) (defBody (topS 30)) (defScope (topS 30)) .none kV_law_purses dc_law_purses pm_law_purses an_law_purses cd_law_purses ct_law_purses), sl_law_purses⟩)
    (c_law_purses : PySem.W.codeIn K cd_law_purses "_law_purses" = true)
    (k_law_purses : PySem.W.keepIn K (.ref f_law_purses) = true)
    (a_law_first : PySem.W.nsIn K mainGlobals "_law_first" = some (some (.ref f_law_first)))
    (l_law_first : K.lookup f_law_first = some ⟨oc_law_first, od_law_first, .func (PySem.W.fnOf "_law_first" "_law_first" (defArgs (topS 31)) (defBody (topS 31)) (defScope (topS 31)) .none kV_law_first dc_law_first pm_law_first an_law_first cd_law_first ct_law_first), sl_law_first⟩)
    (c_law_first : PySem.W.codeIn K cd_law_first "_law_first" = true)
    (k_law_first : PySem.W.keepIn K (.ref f_law_first) = true)
    (a_law_web : PySem.W.nsIn K mainGlobals "_law_web" = some (some (.ref f_law_web)))
    (l_law_web : K.lookup f_law_web = some ⟨oc_law_web, od_law_web, .func (PySem.W.fnOf "_law_web" "_law_web" (defArgs (topS 32)) (defBody (topS 32)) (defScope (topS 32)) .none kV_law_web dc_law_web pm_law_web an_law_web cd_law_web ct_law_web), sl_law_web⟩)
    (c_law_web : PySem.W.codeIn K cd_law_web "_law_web" = true)
    (k_law_web : PySem.W.keepIn K (.ref f_law_web) = true)
    (a_law_hall : PySem.W.nsIn K mainGlobals "_law_hall" = some (some (.ref f_law_hall)))
    (l_law_hall : K.lookup f_law_hall = some ⟨oc_law_hall, od_law_hall, .func (PySem.W.fnOf "_law_hall" "_law_hall" (defArgs (topS 33)) (defBody (topS 33)) (defScope (topS 33)) .none kV_law_hall dc_law_hall pm_law_hall an_law_hall cd_law_hall ct_law_hall), sl_law_hall⟩)
    (c_law_hall : PySem.W.codeIn K cd_law_hall "_law_hall" = true)
    (k_law_hall : PySem.W.keepIn K (.ref f_law_hall) = true)
    (a_law_line : PySem.W.nsIn K mainGlobals "_law_line" = some (some (.ref f_law_line)))
    (l_law_line : K.lookup f_law_line = some ⟨oc_law_line, od_law_line, .func (PySem.W.fnOf "_law_line" "_law_line" (defArgs (topS 34)) (defBody (topS 34)) (defScope (topS 34)) .none kV_law_line dc_law_line pm_law_line an_law_line cd_law_line ct_law_line), sl_law_line⟩)
    (c_law_line : PySem.W.codeIn K cd_law_line "_law_line" = true)
    (k_law_line : PySem.W.keepIn K (.ref f_law_line) = true)
    (a_law_tree : PySem.W.nsIn K mainGlobals "_law_tree" = some (some (.ref f_law_tree)))
    (l_law_tree : K.lookup f_law_tree = some ⟨oc_law_tree, od_law_tree, .func (PySem.W.fnOf "_law_tree" "_law_tree" (defArgs (topS 35)) (defBody (topS 35)) (defScope (topS 35)) .none kV_law_tree dc_law_tree pm_law_tree an_law_tree cd_law_tree ct_law_tree), sl_law_tree⟩)
    (c_law_tree : PySem.W.codeIn K cd_law_tree "_law_tree" = true)
    (k_law_tree : PySem.W.keepIn K (.ref f_law_tree) = true)
    (a_law_way : PySem.W.nsIn K mainGlobals "_law_way" = some (some (.ref f_law_way)))
    (l_law_way : K.lookup f_law_way = some ⟨oc_law_way, od_law_way, .func (PySem.W.fnOf "_law_way" "_law_way" (defArgs (topS 36)) (defBody (topS 36)) (defScope (topS 36)) .none kV_law_way dc_law_way pm_law_way an_law_way cd_law_way ct_law_way), sl_law_way⟩)
    (c_law_way : PySem.W.codeIn K cd_law_way "_law_way" = true)
    (k_law_way : PySem.W.keepIn K (.ref f_law_way) = true)
    (a_law_home : PySem.W.nsIn K mainGlobals "_law_home" = some (some (.ref f_law_home)))
    (l_law_home : K.lookup f_law_home = some ⟨oc_law_home, od_law_home, .func (PySem.W.fnOf "_law_home" "_law_home" (defArgs (topS 37)) (defBody (topS 37)) (defScope (topS 37)) .none kV_law_home dc_law_home pm_law_home an_law_home cd_law_home ct_law_home), sl_law_home⟩)
    (c_law_home : PySem.W.codeIn K cd_law_home "_law_home" = true)
    (k_law_home : PySem.W.keepIn K (.ref f_law_home) = true)
    (a_law_walk : PySem.W.nsIn K mainGlobals "_law_walk" = some (some (.ref f_law_walk)))
    (l_law_walk : K.lookup f_law_walk = some ⟨oc_law_walk, od_law_walk, .func (PySem.W.fnOf "_law_walk" "_law_walk" (defArgs (topS 38)) (defBody (topS 38)) (defScope (topS 38)) .none kV_law_walk dc_law_walk pm_law_walk an_law_walk cd_law_walk ct_law_walk), sl_law_walk⟩)
    (c_law_walk : PySem.W.codeIn K cd_law_walk "_law_walk" = true)
    (k_law_walk : PySem.W.keepIn K (.ref f_law_walk) = true)
    (a_law_odd : PySem.W.nsIn K mainGlobals "_law_odd" = some (some (.ref f_law_odd)))
    (l_law_odd : K.lookup f_law_odd = some ⟨oc_law_odd, od_law_odd, .func (PySem.W.fnOf "_law_odd" "_law_odd" (defArgs (topS 39)) (defBody (topS 39)) (defScope (topS 39)) .none kV_law_odd dc_law_odd pm_law_odd an_law_odd cd_law_odd ct_law_odd), sl_law_odd⟩)
    (c_law_odd : PySem.W.codeIn K cd_law_odd "_law_odd" = true)
    (k_law_odd : PySem.W.keepIn K (.ref f_law_odd) = true)
    (a_law_bent : PySem.W.nsIn K mainGlobals "_law_bent" = some (some (.ref f_law_bent)))
    (l_law_bent : K.lookup f_law_bent = some ⟨oc_law_bent, od_law_bent, .func (PySem.W.fnOf "_law_bent" "_law_bent" (defArgs (topS 40)) (defBody (topS 40)) (defScope (topS 40)) .none kV_law_bent dc_law_bent pm_law_bent an_law_bent cd_law_bent ct_law_bent), sl_law_bent⟩)
    (c_law_bent : PySem.W.codeIn K cd_law_bent "_law_bent" = true)
    (k_law_bent : PySem.W.keepIn K (.ref f_law_bent) = true)
    (a_law_is_arc : PySem.W.nsIn K mainGlobals "_law_is_arc" = some (some (.ref f_law_is_arc)))
    (l_law_is_arc : K.lookup f_law_is_arc = some ⟨oc_law_is_arc, od_law_is_arc, .func (PySem.W.fnOf "_law_is_arc" "_law_is_arc" (defArgs (topS 41)) (defBody (topS 41)) (defScope (topS 41)) .none kV_law_is_arc dc_law_is_arc pm_law_is_arc an_law_is_arc cd_law_is_arc ct_law_is_arc), sl_law_is_arc⟩)
    (c_law_is_arc : PySem.W.codeIn K cd_law_is_arc "_law_is_arc" = true)
    (k_law_is_arc : PySem.W.keepIn K (.ref f_law_is_arc) = true)
    (a_law_end : PySem.W.nsIn K mainGlobals "_law_end" = some (some (.ref f_law_end)))
    (l_law_end : K.lookup f_law_end = some ⟨oc_law_end, od_law_end, .func (PySem.W.fnOf "_law_end" "_law_end" (defArgs (topS 42)) (defBody (topS 42)) (defScope (topS 42)) .none kV_law_end dc_law_end pm_law_end an_law_end cd_law_end ct_law_end), sl_law_end⟩)
    (c_law_end : PySem.W.codeIn K cd_law_end "_law_end" = true)
    (k_law_end : PySem.W.keepIn K (.ref f_law_end) = true)
    (a_law_growth : PySem.W.nsIn K mainGlobals "_law_growth" = some (some (.ref f_law_growth)))
    (l_law_growth : K.lookup f_law_growth = some ⟨oc_law_growth, od_law_growth, .func (PySem.W.fnOf "_law_growth" "_law_growth" (defArgs (topS 43)) (defBody (topS 43)) (defScope (topS 43)) .none kV_law_growth dc_law_growth pm_law_growth an_law_growth cd_law_growth ct_law_growth), sl_law_growth⟩)
    (c_law_growth : PySem.W.codeIn K cd_law_growth "_law_growth" = true)
    (k_law_growth : PySem.W.keepIn K (.ref f_law_growth) = true)
    (a_law_is_way : PySem.W.nsIn K mainGlobals "_law_is_way" = some (some (.ref f_law_is_way)))
    (l_law_is_way : K.lookup f_law_is_way = some ⟨oc_law_is_way, od_law_is_way, .func (PySem.W.fnOf "_law_is_way" "_law_is_way" (defArgs (topS 44)) (defBody (topS 44)) (defScope (topS 44)) .none kV_law_is_way dc_law_is_way pm_law_is_way an_law_is_way cd_law_is_way ct_law_is_way), sl_law_is_way⟩)
    (c_law_is_way : PySem.W.codeIn K cd_law_is_way "_law_is_way" = true)
    (k_law_is_way : PySem.W.keepIn K (.ref f_law_is_way) = true)
    (a_law_met : PySem.W.nsIn K mainGlobals "_law_met" = some (some (.ref f_law_met)))
    (l_law_met : K.lookup f_law_met = some ⟨oc_law_met, od_law_met, .func (PySem.W.fnOf "_law_met" "_law_met" (defArgs (topS 45)) (defBody (topS 45)) (defScope (topS 45)) .none kV_law_met dc_law_met pm_law_met an_law_met cd_law_met ct_law_met), sl_law_met⟩)
    (c_law_met : PySem.W.codeIn K cd_law_met "_law_met" = true)
    (k_law_met : PySem.W.keepIn K (.ref f_law_met) = true)
    (a_law_is_walk : PySem.W.nsIn K mainGlobals "_law_is_walk" = some (some (.ref f_law_is_walk)))
    (l_law_is_walk : K.lookup f_law_is_walk = some ⟨oc_law_is_walk, od_law_is_walk, .func (PySem.W.fnOf "_law_is_walk" "_law_is_walk" (defArgs (topS 46)) (defBody (topS 46)) (defScope (topS 46)) .none kV_law_is_walk dc_law_is_walk pm_law_is_walk an_law_is_walk cd_law_is_walk ct_law_is_walk), sl_law_is_walk⟩)
    (c_law_is_walk : PySem.W.codeIn K cd_law_is_walk "_law_is_walk" = true)
    (k_law_is_walk : PySem.W.keepIn K (.ref f_law_is_walk) = true)
    (a_law_indexes : PySem.W.nsIn K mainGlobals "_law_indexes" = some (some (.ref f_law_indexes)))
    (l_law_indexes : K.lookup f_law_indexes = some ⟨oc_law_indexes, od_law_indexes, .func (PySem.W.fnOf "_law_indexes" "_law_indexes" (defArgs (topS 47)) (defBody (topS 47)) (defScope (topS 47)) .none kV_law_indexes dc_law_indexes pm_law_indexes an_law_indexes cd_law_indexes ct_law_indexes), sl_law_indexes⟩)
    (c_law_indexes : PySem.W.codeIn K cd_law_indexes "_law_indexes" = true)
    (k_law_indexes : PySem.W.keepIn K (.ref f_law_indexes) = true)
    (a_law_ended : PySem.W.nsIn K mainGlobals "_law_ended" = some (some (.ref f_law_ended)))
    (l_law_ended : K.lookup f_law_ended = some ⟨oc_law_ended, od_law_ended, .func (PySem.W.fnOf "_law_ended" "_law_ended" (defArgs (topS 48)) (defBody (topS 48)) (defScope (topS 48)) .none kV_law_ended dc_law_ended pm_law_ended an_law_ended cd_law_ended ct_law_ended), sl_law_ended⟩)
    (c_law_ended : PySem.W.codeIn K cd_law_ended "_law_ended" = true)
    (k_law_ended : PySem.W.keepIn K (.ref f_law_ended) = true)
    (a_law_any_hall : PySem.W.nsIn K mainGlobals "_law_any_hall" = some (some (.ref f_law_any_hall)))
    (l_law_any_hall : K.lookup f_law_any_hall = some ⟨oc_law_any_hall, od_law_any_hall, .func (PySem.W.fnOf "_law_any_hall" "_law_any_hall" (defArgs (topS 49)) (defBody (topS 49)) (defScope (topS 49)) .none kV_law_any_hall dc_law_any_hall pm_law_any_hall an_law_any_hall cd_law_any_hall ct_law_any_hall), sl_law_any_hall⟩)
    (c_law_any_hall : PySem.W.codeIn K cd_law_any_hall "_law_any_hall" = true)
    (k_law_any_hall : PySem.W.keepIn K (.ref f_law_any_hall) = true)
    (a_law_near_way : PySem.W.nsIn K mainGlobals "_law_near_way" = some (some (.ref f_law_near_way)))
    (l_law_near_way : K.lookup f_law_near_way = some ⟨oc_law_near_way, od_law_near_way, .func (PySem.W.fnOf "_law_near_way" "_law_near_way" (defArgs (topS 50)) (defBody (topS 50)) (defScope (topS 50)) .none kV_law_near_way dc_law_near_way pm_law_near_way an_law_near_way cd_law_near_way ct_law_near_way), sl_law_near_way⟩)
    (c_law_near_way : PySem.W.codeIn K cd_law_near_way "_law_near_way" = true)
    (k_law_near_way : PySem.W.keepIn K (.ref f_law_near_way) = true)
    (a_law : PySem.W.nsIn K mainGlobals "law" = some (some (.ref f_law)))
    (l_law : K.lookup f_law = some ⟨oc_law, od_law, .func (PySem.W.fnOf "law" "law" (defArgs (topS 51)) (defBody (topS 51)) (defScope (topS 51)) .none kV_law dc_law pm_law an_law cd_law ct_law), sl_law⟩)
    (c_law : PySem.W.codeIn K cd_law "law" = true)
    (k_law : PySem.W.keepIn K (.ref f_law) = true)
    (s_NoneType_bool : PySem.W.subIn K (.type "NoneType") (.type "bool") = some false)
    (s_int_bool : PySem.W.subIn K (.type "int") (.type "bool") = some false)
    (s_str_bool : PySem.W.subIn K (.type "str") (.type "bool") = some false)
    (s_list_bool : PySem.W.subIn K (.type "list") (.type "bool") = some false)
    (s_tuple_bool : PySem.W.subIn K (.type "tuple") (.type "bool") = some false)
    (s_dict_bool : PySem.W.subIn K (.type "dict") (.type "bool") = some false)
    (s_NoneType_dict : PySem.W.subIn K (.type "NoneType") (.type "dict") = some false)
    (s_bool_dict : PySem.W.subIn K (.type "bool") (.type "dict") = some false)
    (s_int_dict : PySem.W.subIn K (.type "int") (.type "dict") = some false)
    (s_str_dict : PySem.W.subIn K (.type "str") (.type "dict") = some false)
    (s_list_dict : PySem.W.subIn K (.type "list") (.type "dict") = some false)
    (s_tuple_dict : PySem.W.subIn K (.type "tuple") (.type "dict") = some false)
    (s_NoneType_int : PySem.W.subIn K (.type "NoneType") (.type "int") = some false)
    (s_bool_int : PySem.W.subIn K (.type "bool") (.type "int") = some true)
    (s_str_int : PySem.W.subIn K (.type "str") (.type "int") = some false)
    (s_list_int : PySem.W.subIn K (.type "list") (.type "int") = some false)
    (s_tuple_int : PySem.W.subIn K (.type "tuple") (.type "int") = some false)
    (s_dict_int : PySem.W.subIn K (.type "dict") (.type "int") = some false)
    (s_NoneType_str : PySem.W.subIn K (.type "NoneType") (.type "str") = some false)
    (s_bool_str : PySem.W.subIn K (.type "bool") (.type "str") = some false)
    (s_int_str : PySem.W.subIn K (.type "int") (.type "str") = some false)
    (s_list_str : PySem.W.subIn K (.type "list") (.type "str") = some false)
    (s_tuple_str : PySem.W.subIn K (.type "tuple") (.type "str") = some false)
    (s_dict_str : PySem.W.subIn K (.type "dict") (.type "str") = some false)
    (s_NoneType_tuple : PySem.W.subIn K (.type "NoneType") (.type "tuple") = some false)
    (s_bool_tuple : PySem.W.subIn K (.type "bool") (.type "tuple") = some false)
    (s_int_tuple : PySem.W.subIn K (.type "int") (.type "tuple") = some false)
    (s_str_tuple : PySem.W.subIn K (.type "str") (.type "tuple") = some false)
    (s_list_tuple : PySem.W.subIn K (.type "list") (.type "tuple") = some false)
    (s_dict_tuple : PySem.W.subIn K (.type "dict") (.type "tuple") = some false)
    (z_abs : PySem.W.nsIn K mainGlobals "abs" = some none)
    (z_all : PySem.W.nsIn K mainGlobals "all" = some none)
    (z_bool : PySem.W.nsIn K mainGlobals "bool" = some none)
    (z_dict : PySem.W.nsIn K mainGlobals "dict" = some none)
    (z_enumerate : PySem.W.nsIn K mainGlobals "enumerate" = some none)
    (z_int : PySem.W.nsIn K mainGlobals "int" = some none)
    (z_isinstance : PySem.W.nsIn K mainGlobals "isinstance" = some none)
    (z_len : PySem.W.nsIn K mainGlobals "len" = some none)
    (z_list : PySem.W.nsIn K mainGlobals "list" = some none)
    (z_max : PySem.W.nsIn K mainGlobals "max" = some none)
    (z_min : PySem.W.nsIn K mainGlobals "min" = some none)
    (z_range : PySem.W.nsIn K mainGlobals "range" = some none)
    (z_repr : PySem.W.nsIn K mainGlobals "repr" = some none)
    (z_sorted : PySem.W.nsIn K mainGlobals "sorted" = some none)
    (z_str : PySem.W.nsIn K mainGlobals "str" = some none)
    (z_tuple : PySem.W.nsIn K mainGlobals "tuple" = some none)
    (z_type : PySem.W.nsIn K mainGlobals "type" = some none)
    (z_zip : PySem.W.nsIn K mainGlobals "zip" = some none)
    : ∃ fd : FuncData, (∀ (t : Shared) (u : Value), BindsTo t fd ⟨[u], []⟩ [("script", u)]) ∧ ∀ base : Heap, K.In base → base.Ns mainGlobals mg → FnG P w K mg base 10 fa fd ["script"] (Pd.spLaw K) := by
  have e := hfa.symm.trans (PySem.W.mg_of X G a_law)
  cases e
  have F_names_of := fun_mk (st := topS 1) l_names_of c_names_of k_names_of
  have B_names_of := F_names_of.binds (ps := ["hall"]) fun _ _ _ _ _ _ us hl => match us, hl with | [_], _ => rfl
  have At_names_of : Pd.At K mg "names_of" (topS 1) ["hall"] f_names_of _ := ⟨F_names_of, B_names_of, PySem.W.mg_of X G a_names_of⟩
  have F_start_of := fun_mk (st := topS 3) l_start_of c_start_of k_start_of
  have B_start_of := F_start_of.binds (ps := ["hall", "arc"]) fun _ _ _ _ _ _ us hl => match us, hl with | [_, _], _ => rfl
  have At_start_of : Pd.At K mg "start_of" (topS 3) ["hall", "arc"] f_start_of _ := ⟨F_start_of, B_start_of, PySem.W.mg_of X G a_start_of⟩
  have F_end_of := fun_mk (st := topS 4) l_end_of c_end_of k_end_of
  have B_end_of := F_end_of.binds (ps := ["hall", "arc"]) fun _ _ _ _ _ _ us hl => match us, hl with | [_, _], _ => rfl
  have At_end_of : Pd.At K mg "end_of" (topS 4) ["hall", "arc"] f_end_of _ := ⟨F_end_of, B_end_of, PySem.W.mg_of X G a_end_of⟩
  have F_growth_of := fun_mk (st := topS 5) l_growth_of c_growth_of k_growth_of
  have B_growth_of := F_growth_of.binds (ps := ["hall", "arc"]) fun _ _ _ _ _ _ us hl => match us, hl with | [_, _], _ => rfl
  have At_growth_of : Pd.At K mg "growth_of" (topS 5) ["hall", "arc"] f_growth_of _ := ⟨F_growth_of, B_growth_of, PySem.W.mg_of X G a_growth_of⟩
  have F_does_end := fun_mk (st := topS 6) l_does_end c_does_end k_does_end
  have B_does_end := F_does_end.binds (ps := ["arc"]) fun _ _ _ _ _ _ us hl => match us, hl with | [_], _ => rfl
  have At_does_end : Pd.At K mg "does_end" (topS 6) ["arc"] f_does_end _ := ⟨F_does_end, B_does_end, PySem.W.mg_of X G a_does_end⟩
  have F_is_tuple_of := fun_mk (st := topS 8) l_is_tuple_of c_is_tuple_of k_is_tuple_of
  have B_is_tuple_of := F_is_tuple_of.binds (ps := ["thing", "many"]) fun _ _ _ _ _ _ us hl => match us, hl with | [_, _], _ => rfl
  have At_is_tuple_of : Pd.At K mg "is_tuple_of" (topS 8) ["thing", "many"] f_is_tuple_of _ := ⟨F_is_tuple_of, B_is_tuple_of, PySem.W.mg_of X G a_is_tuple_of⟩
  have F_is_integer := fun_mk (st := topS 9) l_is_integer c_is_integer k_is_integer
  have B_is_integer := F_is_integer.binds (ps := ["thing"]) fun _ _ _ _ _ _ us hl => match us, hl with | [_], _ => rfl
  have At_is_integer : Pd.At K mg "is_integer" (topS 9) ["thing"] f_is_integer _ := ⟨F_is_integer, B_is_integer, PySem.W.mg_of X G a_is_integer⟩
  have F_is_count := fun_mk (st := topS 10) l_is_count c_is_count k_is_count
  have B_is_count := F_is_count.binds (ps := ["thing"]) fun _ _ _ _ _ _ us hl => match us, hl with | [_], _ => rfl
  have At_is_count : Pd.At K mg "is_count" (topS 10) ["thing"] f_is_count _ := ⟨F_is_count, B_is_count, PySem.W.mg_of X G a_is_count⟩
  have F_is_name := fun_mk (st := topS 11) l_is_name c_is_name k_is_name
  have B_is_name := F_is_name.binds (ps := ["thing"]) fun _ _ _ _ _ _ us hl => match us, hl with | [_], _ => rfl
  have At_is_name : Pd.At K mg "is_name" (topS 11) ["thing"] f_is_name _ := ⟨F_is_name, B_is_name, PySem.W.mg_of X G a_is_name⟩
  have F_is_arc := fun_mk (st := topS 12) l_is_arc c_is_arc k_is_arc
  have B_is_arc := F_is_arc.binds (ps := ["hall", "thing"]) fun _ _ _ _ _ _ us hl => match us, hl with | [_, _], _ => rfl
  have At_is_arc : Pd.At K mg "is_arc" (topS 12) ["hall", "thing"] f_is_arc _ := ⟨F_is_arc, B_is_arc, PySem.W.mg_of X G a_is_arc⟩
  have F_is_way := fun_mk (st := topS 14) l_is_way c_is_way k_is_way
  have B_is_way := F_is_way.binds (ps := ["hall", "thing"]) fun _ _ _ _ _ _ us hl => match us, hl with | [_, _], _ => rfl
  have At_is_way : Pd.At K mg "is_way" (topS 14) ["hall", "thing"] f_is_way _ := ⟨F_is_way, B_is_way, PySem.W.mg_of X G a_is_way⟩
  have F_is_walk := fun_mk (st := topS 15) l_is_walk c_is_walk k_is_walk
  have B_is_walk := F_is_walk.binds (ps := ["hall", "thing"]) fun _ _ _ _ _ _ us hl => match us, hl with | [_, _], _ => rfl
  have At_is_walk : Pd.At K mg "is_walk" (topS 15) ["hall", "thing"] f_is_walk _ := ⟨F_is_walk, B_is_walk, PySem.W.mg_of X G a_is_walk⟩
  have F_end_of_way := fun_mk (st := topS 16) l_end_of_way c_end_of_way k_end_of_way
  have B_end_of_way := F_end_of_way.binds (ps := ["hall", "way"]) fun _ _ _ _ _ _ us hl => match us, hl with | [_, _], _ => rfl
  have At_end_of_way : Pd.At K mg "end_of_way" (topS 16) ["hall", "way"] f_end_of_way _ := ⟨F_end_of_way, B_end_of_way, PySem.W.mg_of X G a_end_of_way⟩
  have F_indexes := fun_mk (st := topS 17) l_indexes c_indexes k_indexes
  have B_indexes := F_indexes.binds (ps := ["hall", "way"]) fun _ _ _ _ _ _ us hl => match us, hl with | [_, _], _ => rfl
  have At_indexes : Pd.At K mg "indexes" (topS 17) ["hall", "way"] f_indexes _ := ⟨F_indexes, B_indexes, PySem.W.mg_of X G a_indexes⟩
  have F_index_of := fun_mk (st := topS 18) l_index_of c_index_of k_index_of
  have B_index_of := F_index_of.binds (ps := ["hall", "way"]) fun _ _ _ _ _ _ us hl => match us, hl with | [_, _], _ => rfl
  have At_index_of : Pd.At K mg "index_of" (topS 18) ["hall", "way"] f_index_of _ := ⟨F_index_of, B_index_of, PySem.W.mg_of X G a_index_of⟩
  have F_ended := fun_mk (st := topS 19) l_ended c_ended k_ended
  have B_ended := F_ended.binds (ps := ["hall", "way"]) fun _ _ _ _ _ _ us hl => match us, hl with | [_, _], _ => rfl
  have At_ended : Pd.At K mg "ended" (topS 19) ["hall", "way"] f_ended _ := ⟨F_ended, B_ended, PySem.W.mg_of X G a_ended⟩
  have F_law_bag := fun_mk (st := topS 21) l_law_bag c_law_bag k_law_bag
  have B_law_bag := F_law_bag.binds (ps := ["script"]) fun _ _ _ _ _ _ us hl => match us, hl with | [_], _ => rfl
  have At_law_bag : Pd.At K mg "_law_bag" (topS 21) ["script"] f_law_bag _ := ⟨F_law_bag, B_law_bag, PySem.W.mg_of X G a_law_bag⟩
  have F_law_take := fun_mk (st := topS 22) l_law_take c_law_take k_law_take
  have B_law_take := F_law_take.binds (ps := ["bag", "many"]) fun _ _ _ _ _ _ us hl => match us, hl with | [_, _], _ => rfl
  have At_law_take : Pd.At K mg "_law_take" (topS 22) ["bag", "many"] f_law_take _ := ⟨F_law_take, B_law_take, PySem.W.mg_of X G a_law_take⟩
  have F_law_some := fun_mk (st := topS 23) l_law_some c_law_some k_law_some
  have B_law_some := F_law_some.binds (ps := ["bag", "things"]) fun _ _ _ _ _ _ us hl => match us, hl with | [_, _], _ => rfl
  have At_law_some : Pd.At K mg "_law_some" (topS 23) ["bag", "things"] f_law_some _ := ⟨F_law_some, B_law_some, PySem.W.mg_of X G a_law_some⟩
  have F_law_mixed := fun_mk (st := topS 24) l_law_mixed c_law_mixed k_law_mixed
  have B_law_mixed := F_law_mixed.binds (ps := ["bag", "things"]) fun _ _ _ _ _ _ us hl => match us, hl with | [_, _], _ => rfl
  have At_law_mixed : Pd.At K mg "_law_mixed" (topS 24) ["bag", "things"] f_law_mixed _ := ⟨F_law_mixed, B_law_mixed, PySem.W.mg_of X G a_law_mixed⟩
  have F_law_alike := fun_mk (st := topS 25) l_law_alike c_law_alike k_law_alike
  have B_law_alike := F_law_alike.binds (ps := ["found", "due"]) fun _ _ _ _ _ _ us hl => match us, hl with | [_, _], _ => rfl
  have At_law_alike : Pd.At K mg "_law_alike" (topS 25) ["found", "due"] f_law_alike _ := ⟨F_law_alike, B_law_alike, PySem.W.mg_of X G a_law_alike⟩
  have F_law_is_int := fun_mk (st := topS 26) l_law_is_int c_law_is_int k_law_is_int
  have B_law_is_int := F_law_is_int.binds (ps := ["thing"]) fun _ _ _ _ _ _ us hl => match us, hl with | [_], _ => rfl
  have At_law_is_int : Pd.At K mg "_law_is_int" (topS 26) ["thing"] f_law_is_int _ := ⟨F_law_is_int, B_law_is_int, PySem.W.mg_of X G a_law_is_int⟩
  have F_law_names := fun_mk (st := topS 27) l_law_names c_law_names k_law_names
  have B_law_names := F_law_names.binds (ps := ["hall"]) fun _ _ _ _ _ _ us hl => match us, hl with | [_], _ => rfl
  have At_law_names : Pd.At K mg "_law_names" (topS 27) ["hall"] f_law_names _ := ⟨F_law_names, B_law_names, PySem.W.mg_of X G a_law_names⟩
  have F_law_arcs := fun_mk (st := topS 28) l_law_arcs c_law_arcs k_law_arcs
  have B_law_arcs := F_law_arcs.binds (ps := ["hall", "name"]) fun _ _ _ _ _ _ us hl => match us, hl with | [_, _], _ => rfl
  have At_law_arcs : Pd.At K mg "_law_arcs" (topS 28) ["hall", "name"] f_law_arcs _ := ⟨F_law_arcs, B_law_arcs, PySem.W.mg_of X G a_law_arcs⟩
  have F_law_is_live := fun_mk (st := topS 29) l_law_is_live c_law_is_live k_law_is_live
  have B_law_is_live := F_law_is_live.binds (ps := ["hall"]) fun _ _ _ _ _ _ us hl => match us, hl with | [_], _ => rfl
  have At_law_is_live : Pd.At K mg "_law_is_live" (topS 29) ["hall"] f_law_is_live _ := ⟨F_law_is_live, B_law_is_live, PySem.W.mg_of X G a_law_is_live⟩
  have F_law_purses := fun_mk (st := topS 30) l_law_purses c_law_purses k_law_purses
  have B_law_purses := F_law_purses.binds (ps := ["bag", "most"]) fun _ _ _ _ _ _ us hl => match us, hl with | [_, _], _ => rfl
  have At_law_purses : Pd.At K mg "_law_purses" (topS 30) ["bag", "most"] f_law_purses _ := ⟨F_law_purses, B_law_purses, PySem.W.mg_of X G a_law_purses⟩
  have F_law_first := fun_mk (st := topS 31) l_law_first c_law_first k_law_first
  have B_law_first := F_law_first.binds (ps := ["bag", "room"]) fun _ _ _ _ _ _ us hl => match us, hl with | [_, _], _ => rfl
  have At_law_first : Pd.At K mg "_law_first" (topS 31) ["bag", "room"] f_law_first _ := ⟨F_law_first, B_law_first, PySem.W.mg_of X G a_law_first⟩
  have F_law_web := fun_mk (st := topS 32) l_law_web c_law_web k_law_web
  have B_law_web := F_law_web.binds (ps := ["bag", "machines", "most"]) fun _ _ _ _ _ _ us hl => match us, hl with | [_, _, _], _ => rfl
  have At_law_web : Pd.At K mg "_law_web" (topS 32) ["bag", "machines", "most"] f_law_web _ := ⟨F_law_web, B_law_web, PySem.W.mg_of X G a_law_web⟩
  have F_law_hall := fun_mk (st := topS 33) l_law_hall c_law_hall k_law_hall
  have B_law_hall := F_law_hall.binds (ps := ["bag", "machines", "most"]) fun _ _ _ _ _ _ us hl => match us, hl with | [_, _, _], _ => rfl
  have At_law_hall : Pd.At K mg "_law_hall" (topS 33) ["bag", "machines", "most"] f_law_hall _ := ⟨F_law_hall, B_law_hall, PySem.W.mg_of X G a_law_hall⟩
  have F_law_line := fun_mk (st := topS 34) l_law_line c_law_line k_law_line
  have B_law_line := F_law_line.binds (ps := ["bag", "machines", "most"]) fun _ _ _ _ _ _ us hl => match us, hl with | [_, _, _], _ => rfl
  have At_law_line : Pd.At K mg "_law_line" (topS 34) ["bag", "machines", "most"] f_law_line _ := ⟨F_law_line, B_law_line, PySem.W.mg_of X G a_law_line⟩
  have F_law_tree := fun_mk (st := topS 35) l_law_tree c_law_tree k_law_tree
  have B_law_tree := F_law_tree.binds (ps := ["bag", "machines", "most"]) fun _ _ _ _ _ _ us hl => match us, hl with | [_, _, _], _ => rfl
  have At_law_tree : Pd.At K mg "_law_tree" (topS 35) ["bag", "machines", "most"] f_law_tree _ := ⟨F_law_tree, B_law_tree, PySem.W.mg_of X G a_law_tree⟩
  have F_law_way := fun_mk (st := topS 36) l_law_way c_law_way k_law_way
  have B_law_way := F_law_way.binds (ps := ["bag", "hall", "many"]) fun _ _ _ _ _ _ us hl => match us, hl with | [_, _, _], _ => rfl
  have At_law_way : Pd.At K mg "_law_way" (topS 36) ["bag", "hall", "many"] f_law_way _ := ⟨F_law_way, B_law_way, PySem.W.mg_of X G a_law_way⟩
  have F_law_home := fun_mk (st := topS 37) l_law_home c_law_home k_law_home
  have B_law_home := F_law_home.binds (ps := ["hall", "name"]) fun _ _ _ _ _ _ us hl => match us, hl with | [_, _], _ => rfl
  have At_law_home : Pd.At K mg "_law_home" (topS 37) ["hall", "name"] f_law_home _ := ⟨F_law_home, B_law_home, PySem.W.mg_of X G a_law_home⟩
  have F_law_walk := fun_mk (st := topS 38) l_law_walk c_law_walk k_law_walk
  have B_law_walk := F_law_walk.binds (ps := ["bag", "hall", "many"]) fun _ _ _ _ _ _ us hl => match us, hl with | [_, _, _], _ => rfl
  have At_law_walk : Pd.At K mg "_law_walk" (topS 38) ["bag", "hall", "many"] f_law_walk _ := ⟨F_law_walk, B_law_walk, PySem.W.mg_of X G a_law_walk⟩
  have F_law_odd := fun_mk (st := topS 39) l_law_odd c_law_odd k_law_odd
  have B_law_odd := F_law_odd.binds (ps := ["bag"]) fun _ _ _ _ _ _ us hl => match us, hl with | [_], _ => rfl
  have At_law_odd : Pd.At K mg "_law_odd" (topS 39) ["bag"] f_law_odd _ := ⟨F_law_odd, B_law_odd, PySem.W.mg_of X G a_law_odd⟩
  have F_law_bent := fun_mk (st := topS 40) l_law_bent c_law_bent k_law_bent
  have B_law_bent := F_law_bent.binds (ps := ["bag", "thing", "deep"]) fun _ _ _ _ _ _ us hl => match us, hl with | [_, _, _], _ => rfl
  have At_law_bent : Pd.At K mg "_law_bent" (topS 40) ["bag", "thing", "deep"] f_law_bent _ := ⟨F_law_bent, B_law_bent, PySem.W.mg_of X G a_law_bent⟩
  have F_law_is_arc := fun_mk (st := topS 41) l_law_is_arc c_law_is_arc k_law_is_arc
  have B_law_is_arc := F_law_is_arc.binds (ps := ["hall", "thing"]) fun _ _ _ _ _ _ us hl => match us, hl with | [_, _], _ => rfl
  have At_law_is_arc : Pd.At K mg "_law_is_arc" (topS 41) ["hall", "thing"] f_law_is_arc _ := ⟨F_law_is_arc, B_law_is_arc, PySem.W.mg_of X G a_law_is_arc⟩
  have F_law_end := fun_mk (st := topS 42) l_law_end c_law_end k_law_end
  have B_law_end := F_law_end.binds (ps := ["hall", "name", "arc"]) fun _ _ _ _ _ _ us hl => match us, hl with | [_, _, _], _ => rfl
  have At_law_end : Pd.At K mg "_law_end" (topS 42) ["hall", "name", "arc"] f_law_end _ := ⟨F_law_end, B_law_end, PySem.W.mg_of X G a_law_end⟩
  have F_law_growth := fun_mk (st := topS 43) l_law_growth c_law_growth k_law_growth
  have B_law_growth := F_law_growth.binds (ps := ["hall", "arc"]) fun _ _ _ _ _ _ us hl => match us, hl with | [_, _], _ => rfl
  have At_law_growth : Pd.At K mg "_law_growth" (topS 43) ["hall", "arc"] f_law_growth _ := ⟨F_law_growth, B_law_growth, PySem.W.mg_of X G a_law_growth⟩
  have F_law_is_way := fun_mk (st := topS 44) l_law_is_way c_law_is_way k_law_is_way
  have B_law_is_way := F_law_is_way.binds (ps := ["hall", "thing"]) fun _ _ _ _ _ _ us hl => match us, hl with | [_, _], _ => rfl
  have At_law_is_way : Pd.At K mg "_law_is_way" (topS 44) ["hall", "thing"] f_law_is_way _ := ⟨F_law_is_way, B_law_is_way, PySem.W.mg_of X G a_law_is_way⟩
  have F_law_met := fun_mk (st := topS 45) l_law_met c_law_met k_law_met
  have B_law_met := F_law_met.binds (ps := ["hall", "way"]) fun _ _ _ _ _ _ us hl => match us, hl with | [_, _], _ => rfl
  have At_law_met : Pd.At K mg "_law_met" (topS 45) ["hall", "way"] f_law_met _ := ⟨F_law_met, B_law_met, PySem.W.mg_of X G a_law_met⟩
  have F_law_is_walk := fun_mk (st := topS 46) l_law_is_walk c_law_is_walk k_law_is_walk
  have B_law_is_walk := F_law_is_walk.binds (ps := ["hall", "thing"]) fun _ _ _ _ _ _ us hl => match us, hl with | [_, _], _ => rfl
  have At_law_is_walk : Pd.At K mg "_law_is_walk" (topS 46) ["hall", "thing"] f_law_is_walk _ := ⟨F_law_is_walk, B_law_is_walk, PySem.W.mg_of X G a_law_is_walk⟩
  have F_law_indexes := fun_mk (st := topS 47) l_law_indexes c_law_indexes k_law_indexes
  have B_law_indexes := F_law_indexes.binds (ps := ["hall", "way"]) fun _ _ _ _ _ _ us hl => match us, hl with | [_, _], _ => rfl
  have At_law_indexes : Pd.At K mg "_law_indexes" (topS 47) ["hall", "way"] f_law_indexes _ := ⟨F_law_indexes, B_law_indexes, PySem.W.mg_of X G a_law_indexes⟩
  have F_law_ended := fun_mk (st := topS 48) l_law_ended c_law_ended k_law_ended
  have B_law_ended := F_law_ended.binds (ps := ["hall", "way"]) fun _ _ _ _ _ _ us hl => match us, hl with | [_, _], _ => rfl
  have At_law_ended : Pd.At K mg "_law_ended" (topS 48) ["hall", "way"] f_law_ended _ := ⟨F_law_ended, B_law_ended, PySem.W.mg_of X G a_law_ended⟩
  have F_law_any_hall := fun_mk (st := topS 49) l_law_any_hall c_law_any_hall k_law_any_hall
  have B_law_any_hall := F_law_any_hall.binds (ps := ["bag"]) fun _ _ _ _ _ _ us hl => match us, hl with | [_], _ => rfl
  have At_law_any_hall : Pd.At K mg "_law_any_hall" (topS 49) ["bag"] f_law_any_hall _ := ⟨F_law_any_hall, B_law_any_hall, PySem.W.mg_of X G a_law_any_hall⟩
  have F_law_near_way := fun_mk (st := topS 50) l_law_near_way c_law_near_way k_law_near_way
  have B_law_near_way := F_law_near_way.binds (ps := ["bag", "hall", "way"]) fun _ _ _ _ _ _ us hl => match us, hl with | [_, _, _], _ => rfl
  have At_law_near_way : Pd.At K mg "_law_near_way" (topS 50) ["bag", "hall", "way"] f_law_near_way _ := ⟨F_law_near_way, B_law_near_way, PySem.W.mg_of X G a_law_near_way⟩
  have F_law := fun_mk (st := topS 51) l_law c_law k_law
  have B_law := F_law.binds (ps := ["script"]) fun _ _ _ _ _ _ us hl => match us, hl with | [_], _ => rfl
  have KTbool : KT K "bool" (isTyX "bool") := ⟨kit_typ (by rfl) (by decide +kernel) s_NoneType_bool, fun _ => kit_same, fun _ => kit_typ (by rfl) (by decide +kernel) s_int_bool, fun _ => kit_typ (by rfl) (by decide +kernel) s_str_bool, fun _ => kit_typ (by rfl) (by decide +kernel) s_list_bool, fun _ => kit_typ (by rfl) (by decide +kernel) s_tuple_bool, fun _ => kit_typ (by rfl) (by decide +kernel) s_dict_bool⟩
  have KTdict : KT K "dict" (isTyX "dict") := ⟨kit_typ (by rfl) (by decide +kernel) s_NoneType_dict, fun _ => kit_typ (by rfl) (by decide +kernel) s_bool_dict, fun _ => kit_typ (by rfl) (by decide +kernel) s_int_dict, fun _ => kit_typ (by rfl) (by decide +kernel) s_str_dict, fun _ => kit_typ (by rfl) (by decide +kernel) s_list_dict, fun _ => kit_typ (by rfl) (by decide +kernel) s_tuple_dict, fun _ => kit_same⟩
  have KTint : KT K "int" (isTyX "int") := ⟨kit_typ (by rfl) (by decide +kernel) s_NoneType_int, fun _ => kit_typ (by rfl) (by decide +kernel) s_bool_int, fun _ => kit_same, fun _ => kit_typ (by rfl) (by decide +kernel) s_str_int, fun _ => kit_typ (by rfl) (by decide +kernel) s_list_int, fun _ => kit_typ (by rfl) (by decide +kernel) s_tuple_int, fun _ => kit_typ (by rfl) (by decide +kernel) s_dict_int⟩
  have KTstr : KT K "str" (isTyX "str") := ⟨kit_typ (by rfl) (by decide +kernel) s_NoneType_str, fun _ => kit_typ (by rfl) (by decide +kernel) s_bool_str, fun _ => kit_typ (by rfl) (by decide +kernel) s_int_str, fun _ => kit_same, fun _ => kit_typ (by rfl) (by decide +kernel) s_list_str, fun _ => kit_typ (by rfl) (by decide +kernel) s_tuple_str, fun _ => kit_typ (by rfl) (by decide +kernel) s_dict_str⟩
  have KTtuple : KT K "tuple" (isTyX "tuple") := ⟨kit_typ (by rfl) (by decide +kernel) s_NoneType_tuple, fun _ => kit_typ (by rfl) (by decide +kernel) s_bool_tuple, fun _ => kit_typ (by rfl) (by decide +kernel) s_int_tuple, fun _ => kit_typ (by rfl) (by decide +kernel) s_str_tuple, fun _ => kit_typ (by rfl) (by decide +kernel) s_list_tuple, fun _ => kit_same, fun _ => kit_typ (by rfl) (by decide +kernel) s_dict_tuple⟩
  have T : Txt K mg := ⟨_, _, _, _, _, _, _, _, _, _, _, _, _, _, _, _, _, _, _, _, _, _, _, _, _, _, _, _, _, _, _, _, _, _, _, _, _, _, _, _, _, _, _, _, _, _, _, _, _, _, _, _, _, _, _, _, _, _, _, _, _, _, _, _, _, _, _, _, _, _, _, _, _, _, _, _, _, _, _, _, _, _, _, _, _, _, _, _, _, _, _, _, At_names_of, At_start_of, At_end_of, At_growth_of, At_does_end, At_is_tuple_of, At_is_integer, At_is_count, At_is_name, At_is_arc, At_is_way, At_is_walk, At_end_of_way, At_indexes, At_index_of, At_ended, At_law_bag, At_law_take, At_law_some, At_law_mixed, At_law_alike, At_law_is_int, At_law_names, At_law_arcs, At_law_is_live, At_law_purses, At_law_first, At_law_web, At_law_hall, At_law_line, At_law_tree, At_law_way, At_law_home, At_law_walk, At_law_odd, At_law_bent, At_law_is_arc, At_law_end, At_law_growth, At_law_is_way, At_law_met, At_law_is_walk, At_law_indexes, At_law_ended, At_law_any_hall, At_law_near_way, PySem.W.mg_none_of X G z_abs, PySem.W.mg_none_of X G z_all, PySem.W.mg_none_of X G z_bool, PySem.W.mg_none_of X G z_dict, PySem.W.mg_none_of X G z_enumerate, PySem.W.mg_none_of X G z_int, PySem.W.mg_none_of X G z_isinstance, PySem.W.mg_none_of X G z_len, PySem.W.mg_none_of X G z_list, PySem.W.mg_none_of X G z_max, PySem.W.mg_none_of X G z_min, PySem.W.mg_none_of X G z_range, PySem.W.mg_none_of X G z_repr, PySem.W.mg_none_of X G z_sorted, PySem.W.mg_none_of X G z_str, PySem.W.mg_none_of X G z_tuple, PySem.W.mg_none_of X G z_type, PySem.W.mg_none_of X G z_zip, KTbool, KTdict, KTint, KTstr, KTtuple⟩
  exact ⟨_, fun t u => .of_eq rfl, fun base _ _ => ok_law F_law T⟩
end K14

open PySem PySem.W PyProof.Rows in
set_option maxRecDepth 100000 in
set_option maxHeartbeats 0 in
theorem PySem.Challenge.cw_fillerfed_k14_ways_and_walks_holds : PySem.Challenge.rw_fillerfed_k14_ways_and_walks.Holds := by
  w_on; o_law; k_head; (case hw => w_witness2)
  k_fill
  refine Vd.walkG (l := PySem.Challenge.rw_fillerfed_k14_ways_and_walks) (n := 63) (k := 10) (x := "script") (sp := Pd.spLaw) rfl (by decide +kernel) rfl ⟨rfl, by decide +kernel, by decide +kernel⟩ (fun w h Y => PySem.W.kIn_of Y) ?F (fun K H a ns few sq => ⟨a, ns, rfl, sq, few, fun _ => rfl⟩)
  case F =>
    intro w mg fa h KX G hmg
    refine' K14.all_mk KX G hmg ?a_names_of ?l_names_of ?c_names_of ?k_names_of ?a_start_of ?l_start_of ?c_start_of ?k_start_of ?a_end_of ?l_end_of ?c_end_of ?k_end_of ?a_growth_of ?l_growth_of ?c_growth_of ?k_growth_of ?a_does_end ?l_does_end ?c_does_end ?k_does_end ?a_is_tuple_of ?l_is_tuple_of ?c_is_tuple_of ?k_is_tuple_of ?a_is_integer ?l_is_integer ?c_is_integer ?k_is_integer ?a_is_count ?l_is_count ?c_is_count ?k_is_count ?a_is_name ?l_is_name ?c_is_name ?k_is_name ?a_is_arc ?l_is_arc ?c_is_arc ?k_is_arc ?a_is_way ?l_is_way ?c_is_way ?k_is_way ?a_is_walk ?l_is_walk ?c_is_walk ?k_is_walk ?a_end_of_way ?l_end_of_way ?c_end_of_way ?k_end_of_way ?a_indexes ?l_indexes ?c_indexes ?k_indexes ?a_index_of ?l_index_of ?c_index_of ?k_index_of ?a_ended ?l_ended ?c_ended ?k_ended ?a_law_bag ?l_law_bag ?c_law_bag ?k_law_bag ?a_law_take ?l_law_take ?c_law_take ?k_law_take ?a_law_some ?l_law_some ?c_law_some ?k_law_some ?a_law_mixed ?l_law_mixed ?c_law_mixed ?k_law_mixed ?a_law_alike ?l_law_alike ?c_law_alike ?k_law_alike ?a_law_is_int ?l_law_is_int ?c_law_is_int ?k_law_is_int ?a_law_names ?l_law_names ?c_law_names ?k_law_names ?a_law_arcs ?l_law_arcs ?c_law_arcs ?k_law_arcs ?a_law_is_live ?l_law_is_live ?c_law_is_live ?k_law_is_live ?a_law_purses ?l_law_purses ?c_law_purses ?k_law_purses ?a_law_first ?l_law_first ?c_law_first ?k_law_first ?a_law_web ?l_law_web ?c_law_web ?k_law_web ?a_law_hall ?l_law_hall ?c_law_hall ?k_law_hall ?a_law_line ?l_law_line ?c_law_line ?k_law_line ?a_law_tree ?l_law_tree ?c_law_tree ?k_law_tree ?a_law_way ?l_law_way ?c_law_way ?k_law_way ?a_law_home ?l_law_home ?c_law_home ?k_law_home ?a_law_walk ?l_law_walk ?c_law_walk ?k_law_walk ?a_law_odd ?l_law_odd ?c_law_odd ?k_law_odd ?a_law_bent ?l_law_bent ?c_law_bent ?k_law_bent ?a_law_is_arc ?l_law_is_arc ?c_law_is_arc ?k_law_is_arc ?a_law_end ?l_law_end ?c_law_end ?k_law_end ?a_law_growth ?l_law_growth ?c_law_growth ?k_law_growth ?a_law_is_way ?l_law_is_way ?c_law_is_way ?k_law_is_way ?a_law_met ?l_law_met ?c_law_met ?k_law_met ?a_law_is_walk ?l_law_is_walk ?c_law_is_walk ?k_law_is_walk ?a_law_indexes ?l_law_indexes ?c_law_indexes ?k_law_indexes ?a_law_ended ?l_law_ended ?c_law_ended ?k_law_ended ?a_law_any_hall ?l_law_any_hall ?c_law_any_hall ?k_law_any_hall ?a_law_near_way ?l_law_near_way ?c_law_near_way ?k_law_near_way ?a_law ?l_law ?c_law ?k_law ?s_NoneType_bool ?s_int_bool ?s_str_bool ?s_list_bool ?s_tuple_bool ?s_dict_bool ?s_NoneType_dict ?s_bool_dict ?s_int_dict ?s_str_dict ?s_list_dict ?s_tuple_dict ?s_NoneType_int ?s_bool_int ?s_str_int ?s_list_int ?s_tuple_int ?s_dict_int ?s_NoneType_str ?s_bool_str ?s_int_str ?s_list_str ?s_tuple_str ?s_dict_str ?s_NoneType_tuple ?s_bool_tuple ?s_int_tuple ?s_str_tuple ?s_list_tuple ?s_dict_tuple ?z_abs ?z_all ?z_bool ?z_dict ?z_enumerate ?z_int ?z_isinstance ?z_len ?z_list ?z_max ?z_min ?z_range ?z_repr ?z_sorted ?z_str ?z_tuple ?z_type ?z_zip
    (case a_names_of => k_is)
    (case l_names_of => k_is)
    (case c_names_of => k_is)
    (case k_names_of => k_is)
    (case a_start_of => k_is)
    (case l_start_of => k_is)
    (case c_start_of => k_is)
    (case k_start_of => k_is)
    (case a_end_of => k_is)
    (case l_end_of => k_is)
    (case c_end_of => k_is)
    (case k_end_of => k_is)
    (case a_growth_of => k_is)
    (case l_growth_of => k_is)
    (case c_growth_of => k_is)
    (case k_growth_of => k_is)
    (case a_does_end => k_is)
    (case l_does_end => k_is)
    (case c_does_end => k_is)
    (case k_does_end => k_is)
    (case a_is_tuple_of => k_is)
    (case l_is_tuple_of => k_is)
    (case c_is_tuple_of => k_is)
    (case k_is_tuple_of => k_is)
    (case a_is_integer => k_is)
    (case l_is_integer => k_is)
    (case c_is_integer => k_is)
    (case k_is_integer => k_is)
    (case a_is_count => k_is)
    (case l_is_count => k_is)
    (case c_is_count => k_is)
    (case k_is_count => k_is)
    (case a_is_name => k_is)
    (case l_is_name => k_is)
    (case c_is_name => k_is)
    (case k_is_name => k_is)
    (case a_is_arc => k_is)
    (case l_is_arc => k_is)
    (case c_is_arc => k_is)
    (case k_is_arc => k_is)
    (case a_is_way => k_is)
    (case l_is_way => k_is)
    (case c_is_way => k_is)
    (case k_is_way => k_is)
    (case a_is_walk => k_is)
    (case l_is_walk => k_is)
    (case c_is_walk => k_is)
    (case k_is_walk => k_is)
    (case a_end_of_way => k_is)
    (case l_end_of_way => k_is)
    (case c_end_of_way => k_is)
    (case k_end_of_way => k_is)
    (case a_indexes => k_is)
    (case l_indexes => k_is)
    (case c_indexes => k_is)
    (case k_indexes => k_is)
    (case a_index_of => k_is)
    (case l_index_of => k_is)
    (case c_index_of => k_is)
    (case k_index_of => k_is)
    (case a_ended => k_is)
    (case l_ended => k_is)
    (case c_ended => k_is)
    (case k_ended => k_is)
    (case a_law_bag => k_is)
    (case l_law_bag => k_is)
    (case c_law_bag => k_is)
    (case k_law_bag => k_is)
    (case a_law_take => k_is)
    (case l_law_take => k_is)
    (case c_law_take => k_is)
    (case k_law_take => k_is)
    (case a_law_some => k_is)
    (case l_law_some => k_is)
    (case c_law_some => k_is)
    (case k_law_some => k_is)
    (case a_law_mixed => k_is)
    (case l_law_mixed => k_is)
    (case c_law_mixed => k_is)
    (case k_law_mixed => k_is)
    (case a_law_alike => k_is)
    (case l_law_alike => k_is)
    (case c_law_alike => k_is)
    (case k_law_alike => k_is)
    (case a_law_is_int => k_is)
    (case l_law_is_int => k_is)
    (case c_law_is_int => k_is)
    (case k_law_is_int => k_is)
    (case a_law_names => k_is)
    (case l_law_names => k_is)
    (case c_law_names => k_is)
    (case k_law_names => k_is)
    (case a_law_arcs => k_is)
    (case l_law_arcs => k_is)
    (case c_law_arcs => k_is)
    (case k_law_arcs => k_is)
    (case a_law_is_live => k_is)
    (case l_law_is_live => k_is)
    (case c_law_is_live => k_is)
    (case k_law_is_live => k_is)
    (case a_law_purses => k_is)
    (case l_law_purses => k_is)
    (case c_law_purses => k_is)
    (case k_law_purses => k_is)
    (case a_law_first => k_is)
    (case l_law_first => k_is)
    (case c_law_first => k_is)
    (case k_law_first => k_is)
    (case a_law_web => k_is)
    (case l_law_web => k_is)
    (case c_law_web => k_is)
    (case k_law_web => k_is)
    (case a_law_hall => k_is)
    (case l_law_hall => k_is)
    (case c_law_hall => k_is)
    (case k_law_hall => k_is)
    (case a_law_line => k_is)
    (case l_law_line => k_is)
    (case c_law_line => k_is)
    (case k_law_line => k_is)
    (case a_law_tree => k_is)
    (case l_law_tree => k_is)
    (case c_law_tree => k_is)
    (case k_law_tree => k_is)
    (case a_law_way => k_is)
    (case l_law_way => k_is)
    (case c_law_way => k_is)
    (case k_law_way => k_is)
    (case a_law_home => k_is)
    (case l_law_home => k_is)
    (case c_law_home => k_is)
    (case k_law_home => k_is)
    (case a_law_walk => k_is)
    (case l_law_walk => k_is)
    (case c_law_walk => k_is)
    (case k_law_walk => k_is)
    (case a_law_odd => k_is)
    (case l_law_odd => k_is)
    (case c_law_odd => k_is)
    (case k_law_odd => k_is)
    (case a_law_bent => k_is)
    (case l_law_bent => k_is)
    (case c_law_bent => k_is)
    (case k_law_bent => k_is)
    (case a_law_is_arc => k_is)
    (case l_law_is_arc => k_is)
    (case c_law_is_arc => k_is)
    (case k_law_is_arc => k_is)
    (case a_law_end => k_is)
    (case l_law_end => k_is)
    (case c_law_end => k_is)
    (case k_law_end => k_is)
    (case a_law_growth => k_is)
    (case l_law_growth => k_is)
    (case c_law_growth => k_is)
    (case k_law_growth => k_is)
    (case a_law_is_way => k_is)
    (case l_law_is_way => k_is)
    (case c_law_is_way => k_is)
    (case k_law_is_way => k_is)
    (case a_law_met => k_is)
    (case l_law_met => k_is)
    (case c_law_met => k_is)
    (case k_law_met => k_is)
    (case a_law_is_walk => k_is)
    (case l_law_is_walk => k_is)
    (case c_law_is_walk => k_is)
    (case k_law_is_walk => k_is)
    (case a_law_indexes => k_is)
    (case l_law_indexes => k_is)
    (case c_law_indexes => k_is)
    (case k_law_indexes => k_is)
    (case a_law_ended => k_is)
    (case l_law_ended => k_is)
    (case c_law_ended => k_is)
    (case k_law_ended => k_is)
    (case a_law_any_hall => k_is)
    (case l_law_any_hall => k_is)
    (case c_law_any_hall => k_is)
    (case k_law_any_hall => k_is)
    (case a_law_near_way => k_is)
    (case l_law_near_way => k_is)
    (case c_law_near_way => k_is)
    (case k_law_near_way => k_is)
    (case a_law => k_is)
    (case l_law => k_is)
    (case c_law => k_is)
    (case k_law => k_is)
    (case s_NoneType_bool => k_is)
    (case s_int_bool => k_is)
    (case s_str_bool => k_is)
    (case s_list_bool => k_is)
    (case s_tuple_bool => k_is)
    (case s_dict_bool => k_is)
    (case s_NoneType_dict => k_is)
    (case s_bool_dict => k_is)
    (case s_int_dict => k_is)
    (case s_str_dict => k_is)
    (case s_list_dict => k_is)
    (case s_tuple_dict => k_is)
    (case s_NoneType_int => k_is)
    (case s_bool_int => k_is)
    (case s_str_int => k_is)
    (case s_list_int => k_is)
    (case s_tuple_int => k_is)
    (case s_dict_int => k_is)
    (case s_NoneType_str => k_is)
    (case s_bool_str => k_is)
    (case s_int_str => k_is)
    (case s_list_str => k_is)
    (case s_tuple_str => k_is)
    (case s_dict_str => k_is)
    (case s_NoneType_tuple => k_is)
    (case s_bool_tuple => k_is)
    (case s_int_tuple => k_is)
    (case s_str_tuple => k_is)
    (case s_list_tuple => k_is)
    (case s_dict_tuple => k_is)
    (case z_abs => k_is)
    (case z_all => k_is)
    (case z_bool => k_is)
    (case z_dict => k_is)
    (case z_enumerate => k_is)
    (case z_int => k_is)
    (case z_isinstance => k_is)
    (case z_len => k_is)
    (case z_list => k_is)
    (case z_max => k_is)
    (case z_min => k_is)
    (case z_range => k_is)
    (case z_repr => k_is)
    (case z_sorted => k_is)
    (case z_str => k_is)
    (case z_tuple => k_is)
    (case z_type => k_is)
    (case z_zip => k_is)
