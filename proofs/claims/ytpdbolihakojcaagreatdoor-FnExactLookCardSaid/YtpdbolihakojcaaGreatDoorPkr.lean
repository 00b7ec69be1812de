import Derived.Test.YtpdbolihakojcaaGreatDoorPkm
import Derived.Test.YtpdbolihakojcaaGreatDoorPko
import Derived.Test.YtpdbolihakojcaaGreatDoorPkn
import Derived.ProofKit
import Derived.OpenShut
import Derived.ShutString
import Derived.ChangeOld
import Derived.Below
import Derived.Deep.SlicePairs
namespace Go.Proofs.YtpdbolihakojcaaGreatDoor
set_option maxRecDepth 20000
set_option linter.unusedVariables false
set_option linter.unusedSimpArgs false
set_option maxHeartbeats 4000000
open Go.RowKit
variable {W Y w w' w0 wr : World} {b : List UInt8} {A B at_ base' c cap e f g gs i j k lo m n u z : Nat} {R d is l : List Nat} {E G I J K L M N O v0 v1 v2 v3 v4 v5 v6 x y : Value} {o : Oper} {Q : Exit → Act → World → Prop} {bvs xs : List Value} {t : TypeId} {cs tmps : Array Value} {p : Addr} {a : Option Addr} {first ok : Bool} {s : ByteArray} {rs : List (List Nat)}
theorem xg(a:Option Addr)(c:Nat)(w:World):Calls Tryz.prog 127 #[.slice a 0 c] w fun e w'=>e= .returned (.slice none 0 0)∧w'=w:=by
 go_enter Tryz.func127,Tryz.ntmps127;go_wp2;go_loopw [3,4,5,8] (fun o f _ i wr=>o= .slice none 0 0∧f= .int .i64 0∧i= .int .i64 0∧wr=w) (fun _ _ _ _ _=>0)
 case atStart=>exact⟨rfl,rfl,rfl,rfl⟩
 case round=>
  obtain⟨rfl,rfl,rfl,rfl⟩:=hrel;go_wp2;go_ret;exact⟨rfl,rfl⟩
theorem vN:iy []=some []:=by decide
theorem xU(a:Option Addr)(c:Nat)(w:World):Calls Tryz.prog 95 #[.slice a 0 c] w (i6 [] w):=by
 obtain⟨z,E,G,I⟩:=nE w #[.bool false,.slice none 0 0] #[.bool true,.slice none 0 0] 176 176;have M:=a8 (fun(X:World) (h:Below w.heap.size w X)=>show i6 [] w (.returned (.agg #[.bool true,.slice none 0 0])) X from⟨_,rfl,by rw[vN];exact⟨_,[],rfl,rfl,gq.nil _ _⟩,h⟩);have L:=a8 (xg a c);go_enter Tryz.func95,Tryz.ntmps95;go_wp2_with fail;generalize (w.alloc (.cells #[.bool false,.slice none 0 0] 176)).alloc (.cells #[.bool true,.slice none 0 0] 176)=W at z E G I⊢;refine(L.out W).mono ?_;rintro e A ⟨rfl,rfl⟩;obtain⟨N,O⟩:=E.c2;obtain⟨R,U⟩:=z.c2;have Q:=fun j=>z.fz j;have K:=a8 G;have J:=a8 z;clear z E G I;go_wp2;go_loopw [4,5,7,16] (fun x y _ i wr=>x= .int .i64 0∧y= .slice none 0 0∧i= .int .i64 0∧wr=A) (fun _ _ _ _ _=>0)
 case atStart=>exact⟨rfl,rfl,rfl,rfl⟩
 case round=>
  obtain⟨rfl,rfl,rfl,rfl⟩:=hrel;go_wp2;refine bodyPost_ret (fL w.heap.size _ (.bool true) (.slice none 0 0) rfl rfl ((J.out.set 0 (.bool true)).set 1 (.slice none 0 0))) rfl (M.out _ ((K.out.setCell (p:=⟨w.heap.size,0,none⟩) (MH _) _).setCell (p:=⟨w.heap.size,1,none⟩) (MH _) _))
theorem fX.take(h:fX w a c d)(n:Nat):fX w a c (d.take n):=
 ⟨h.row.take n,MN (by rw[MZ];omega) h.room,h.cap,(fun x z=>h.byte x (M4 z)),h.nl,h.spot⟩
theorem fX.text(h:fX w a c d)(E:0<d.length):∃b z,a=some ⟨b,z,none⟩∧d8 w b z d∧b<w.heap.size:=by
 obtain⟨b,z,rfl,A⟩:=h.row E;exact⟨b,z,rfl,fun i G=>A i G,dH (A 0 E)⟩
theorem Iw(h:fX w a c d)(I:d.length≤1048576):Calls Tryz.prog 95 #[.slice a d.length c] w (i6 d w):=by
 by_cases A:d.length=0
 ·rw[Nc] at A;subst A;exact xU a c w
 ·obtain⟨b,z,rfl,E,G⟩:=h.text (by omega);by_cases J:40000<d.length
  ·exact uB b z c d w J I
  ·exact xS b z c d w (by omega) h.room E G h.byte
section
open Go.Sort Go.Lib
def KH(D:dQ)(nm:ByteArray)(w0 w:World)(e:Ending)(w':World):Prop:=∃a c,e= .returned (.tuple #[.slice a (dI D nm).2.length c,.bool (dI D nm).1])∧fX w0 a c (dI D nm).2∧Below w.heap.size w w'
theorem nc(v:Value)(D:dQ)(nm:ByteArray)(w0 w:World)(hv:eP D)(hd:km w0 v D)(z:Below w0.heap.size w0 w):
  Calls Tryz.prog 74 #[v,.string nm] w (KH D nm w0 w):=by
 obtain⟨a1,M,L,G,a3,c3,a4,c4,rfl,r1,r2,r3,r4⟩:=hd;have ar:eL (D.nodes.length:Int) D.names=true:=hv.2.2.2.2.1;obtain⟨aj,au,ax,ap⟩:=gR ar;have ay:D.nodes.length≤600:=(by have h:=hv.2.2.2.1;unfold fT at h;exact(of_decide_eq_true h).1);have A:=nAl w (.cells #[.slice a1 D.nodes.length M,.slice L D.names.length G,.slice a3 D.kept.length c3,.slice a4 D.pend.length c4,.int .i64 D.quota] 37);have E:=dZ.new w #[.slice a1 D.nodes.length M,.slice L D.names.length G,.slice a3 D.kept.length c3,.slice a4 D.pend.length c4,.int .i64 D.quota] 37;have R:=a8 (fun(W:World) (hb:Below w.heap.size w W)=>wu L G D.names nm W (by omega) (r2.below (z.trans (hb.mono z.size))) au);have ag:=a8 r1;have ah:=a8 (fun(W:World) (hb:Below w.heap.size w W)=>r2.below (z.trans (hb.mono z.size)));have ad:=a8 z;have af:=a8 (fun(n:Int)=>lU (n:=n) (s:=nm) aj.good);have ae:=a8 ap;clear r1 r2 r3 r4 aj au ap ar hv z;go_enter Tryz.func74,Tryz.ntmps74;go_wp2_with fail;generalize w.alloc (.cells #[.slice a1 D.nodes.length M,.slice L D.names.length G,.slice a3 D.kept.length c3,.slice a4 D.pend.length c4,.int .i64 D.quota] 37)=wA at A E⊢;refine(R.out wA A).mono ?_;rintro e w1 ⟨⟨i,f,rfl,Y,V⟩,J⟩;have I:=a8 (A.trans (J.mono A.size));have K:=E.below J E.lt;cases f with
 |false=>
  have HN:=a8 (tf (uu (V rfl)));clear Y V A E J R K;go_wp2;go_ret2;exact⟨none,0,by rw[HN.out];rfl,by rw[HN.out];exact fX.nil _,I.out⟩
 |true=>
  obtain⟨hi,aq⟩:=Y rfl;have Q:(nm,D.names[i].2)∈D.names:=(by rw[←aq];exact MO hi);obtain⟨an,ao⟩:=ae.out _ Q;obtain⟨k,N⟩:=Int.eq_ofNat_of_zero_le an;simp only at N ao;have am:k<D.nodes.length:=(by omega);have U:=a8 (ow ((af.out _).2 Q) N am);obtain⟨b2,o2,e2,al⟩:=(ah.out w1 I.out) (by omega)
  obtain⟨b1,o1,e1,ak⟩:=ag.out (by omega);obtain⟨ai,ci,Z,aa,ac⟩:=ak k am;have O:=ad.out.trans (I.out.mono ad.out.size);have k0:=(O.cell (p:=⟨b1,o1+k*2,none⟩) (dH Z)).trans Z;have k1:=(O.cell (p:=⟨b1,o1+k*2+1,none⟩) (dH aa)).trans aa;have g1:=(al i hi).2;rw[N] at g1;subst e1 e2;obtain⟨t0,t1⟩:=K.c2;have av:(i:Int)<(D.names.length:Int):=(by omega);have aw:(k:Int)<(D.nodes.length:Int):=(by omega);have ab:=a8 ac;clear Z aa O;generalize D.nodes[k].1=bl at k0 U ab;generalize D.nodes[k].2=sf at k1;clear Y V A E J R K Q an ao N ak al ac ae af ag ah aq;go_wp2;go_quiet(fail);go_wp2;go_ret2;exact⟨ai,ci,by rw[U.out];rfl,by rw[U.out];exact ab.out,below_drewN I.out _⟩
theorem ER(g:Nat):(⟨#[109,98,111,120,46]⟩:ByteArray)++iG g=eH g:=by
 apply ByteArray.ext;rw[ByteArray.data_append];unfold eH iG;simp
theorem Cv(g:Nat)(w:World)(K:g≤99999)(A:TabIs Tryz.prog w "internal/strconv.uint64pow10" .u64 Lib.pow10Tab):
  Calls Tryz.prog 151 #[.int .u64 (g:Int)] w fun e w'=>e= .returned (.string (eH g))∧Below w.heap.size w w':=by
 have z:=a8 (kR g w (by omega) A);have E:=a8 (ER g);have I:(iG g).size≤24:=by
  have:=JQ g (by omega);have h:(iG g).size=(Lib.decDigits g).length:=(by unfold iG;rfl);rw[h,Lib.decDigits_length];omega
 clear A;generalize iG g=x at z E I;go_enter Tryz.func151,Tryz.ntmps151;go_wp2_with fail;refine z.out.mono ?_;rintro e L ⟨rfl,G⟩;have J:=a8 G;clear G z;go_wp2;go_ret;exact⟨by rw[←E.out];rfl,J.out⟩
theorem pN(a:Option Addr)(c:Nat)(w:World)(I:c≤9223372036854775807):
  Calls Tryz.prog 181 #[.slice a 0 c] w fun e w'=>e= .returned (.slice none 0 0)∧Below w.heap.size w w':=by
 have z:=a8 (lg a c [] w (by simp) (by simp) I (fun h=>absurd h (Nat.lt_irrefl _)) (fun x K=>by cases K));go_enter Tryz.func181,Tryz.ntmps181;go_wp2_with fail;refine z.out.mono ?_;rintro e L ⟨v,rfl,E,A⟩;have G:=a8 A;have J:∃p q,v= .slice p 0 q:=by
  rcases E.2 with⟨rfl,_⟩|⟨g,cap,M,rfl,_⟩
  ·exact⟨_,_,rfl⟩
  ·exact⟨_,_,rfl⟩
 obtain⟨p,q,rfl⟩:=J;clear E A z;go_wp2;go_loopw [3,5,9] (fun x _ i wr=>x= .slice none 0 0∧i= .int .i64 0∧wr=L) (fun _ _ _ _=>0)
 case atStart=>exact⟨rfl,rfl,rfl⟩
 case round=>
  obtain⟨rfl,rfl,rfl⟩:=hrel;go_wp2;go_ret;exact⟨rfl,G.out⟩
theorem wT(a:Option Addr)(c:Nat)(w:World)(R:c≤9223372036854775807):Calls Tryz.prog 152 #[.slice a 0 c] w (i6 [] w):=by
 obtain⟨E,G,I,L⟩:=nE w #[.bool false,.slice none 0 0] #[.bool true,.slice none 0 0] 176 176;have Q:=a8 (fun(X:World) (h:Below w.heap.size w X)=>show i6 [] w (.returned (.agg #[.bool true,.slice none 0 0])) X from⟨_,rfl,by rw[vN];exact⟨_,[],rfl,rfl,gq.nil _ _⟩,h⟩);have O:=a8 (fun W=>pN a c W R);go_enter Tryz.func152,Tryz.ntmps152;go_wp2_with fail;generalize (w.alloc (.cells #[.bool false,.slice none 0 0] 176)).alloc (.cells #[.bool true,.slice none 0 0] 176)=W at E G I L⊢;refine(O.out W).mono ?_;rintro e A ⟨rfl,J⟩;have z:=E.below J E.lt;have K:=G.below J G.lt;obtain⟨U,V⟩:=K.c2;obtain⟨Z,r1⟩:=z.c2;have Y:=fun j=>z.fz j;have N:=a8 (I.trans (J.mono I.size));have M:=a8 z;clear E G I L z K J;go_wp2;go_loopw [5,6,7,8,9,34] (fun _ _ _ _ _ i wr=>i= .int .i64 0∧wr=A) (fun _ _ _ _ _ _ _=>0)
 case atStart=>exact⟨rfl,rfl⟩
 case round=>
  obtain⟨rfl,rfl⟩:=hrel;go_wp2;refine bodyPost_ret (fL w.heap.size _ (.bool true) (.slice none 0 0) rfl rfl ((M.out.set 0 (.bool true)).set 1 (.slice none 0 0))) rfl (Q.out _ ((N.out.setCell (p:=⟨w.heap.size,0,none⟩) (MH _) _).setCell (p:=⟨w.heap.size,1,none⟩) (MH _) _))
theorem GN{a:Option Addr}{c:Nat}{d:List Nat}{w:World}(h:fX w a c d)(I:d.length≤1048576):Calls Tryz.prog 152 #[.slice a d.length c] w (i6 d w):=by
 by_cases A:d.length=0
 ·rw[Nc] at A;subst A;exact wT a c w h.cap
 ·obtain⟨b,z,rfl,E,G⟩:=h.text (by omega);by_cases J:40000<d.length
  ·exact sh b z c d w J I
  ·exact ug b z c d w (by omega) h.room h.cap E G h.byte
end
section
open Go.ChangeShapes Go.WideShapes Go.ChangeAt Go.Deep
section
variable {H:Type} {enc:TypeId×Value→H} {W:World}
theorem yu{O:Nat}{v:Value}{x:DataW H×List MemPlace}(h:DataW.trod enc Tryz.prog W 0 (fun _=>true) true O 52 [v]=some x):
  ∃(a:Option Addr) (c:Nat) (l:List Nat),v= .slice a l.length c∧dW W a l∧l.length≤9223372036854775807∧∀x∈l,x<256:=by
 rcases open_ints Tryz.underlying52 Tryz.underlying5 (by kernel_rfl) h with⟨E,_⟩|⟨x,l,c,A,E,_,hl,hm,hz,_,J,L⟩
 ·simp only[List.cons.injEq,and_true] at E;exact⟨none,0,[],E,fun h=>absurd h (Nat.lt_irrefl _),by simp,(fun y I=>by cases I)⟩
 ·simp only[List.cons.injEq,and_true] at E;have aa:A.length=c:=(by simpa using hz);have K:((A.take l).map Int.toNat).length=l:=(by simp;omega);have Q:∀y∈(A.take l).map Int.toNat,y<256:=fun y I=>by
   obtain⟨z,U,rfl⟩:=Na.1 I;have:=L z (M4 U);simp[Lit.wf,IntKind.min,IntKind.max,IntKind.signed,IntKind.bits] at this;omega
  refine⟨some x,c,(A.take l).map Int.toNat,by rw[K];exact E,fun hp=> ?_,by rw[K];unfold maxLen at hm;omega,Q⟩;obtain⟨b,V,R⟩:=x;have Z:=J 0 (by omega);have N:R=none:=(by simpa[Addr.add] using World.cell?_spot Z);subst N;refine⟨b,V,rfl,fun i hi=> ?_⟩;have G:i<A.length:=(by omega);have M:=J i G;have Y:0≤A[i]∧A[i]≤255:=by
   have:=L A[i] (MO G);simp[Lit.wf,IntKind.min,IntKind.max,IntKind.signed,IntKind.bits] at this;exact this
  rw[ej] at M;rw[M];simp only[MY,List.getElem_take,List.getD_eq_getElem?_getD,MM G,Option.getD_some];rw[Int.toNat_of_nonneg Y.1]
theorem uU{U:Nat}{v:Value}{x:DataW H×List MemPlace}(h:DataW.trod enc Tryz.prog W 0 (fun _=>true) true U 23 [v]=some x):
  ∃(a:Option Addr) (c:Nat) (E:List (ByteArray×Int)),v= .slice a E.length c∧fi W a E∧E.length≤9223372036854775807∧∀e∈E,e.1.size≤9223372036854775807:=by
 rcases open_slice_pairs Tryz.underlying23 Tryz.underlying82 (by kernel_rfl) rfl rfl (by kernel_rfl) (by kernel_rfl) h with⟨A,_⟩|⟨x,l,c,m,fu,V0,V1,D0,D1,P0,P1,A,_,hl,hm,Y,_,hx⟩
 ·simp only[List.cons.injEq,and_true] at A;exact⟨none,0,[],A,(fun h=>absurd h (Nat.lt_irrefl _)),by simp,(fun e G=>by cases G)⟩
 ·simp only[List.cons.injEq,and_true] at A;have aa:m=c:=(by simpa using Y);have R:∀i,i<l→∃q:ByteArray×Int,W.cell? (x.add (i*2))=some (.string q.1)∧W.cell? (x.add (i*2+1))=some (.int .i64 q.2)∧q.1.size≤9223372036854775807:=fun i I=>by
   obtain⟨x0,x1,t0,t1⟩:=hx i (by omega);obtain⟨s,L,_,hs⟩:=DataW.trod_string Tryz.underlying9 t0;obtain⟨z,M,_⟩:=DataW.trod_int Tryz.underlying3 t1;simp only[List.cons.injEq,and_true] at L M;exact⟨(s,z),by rw[x0,L],by rw[x1,M],by unfold maxLen at hs;simp only;omega⟩
  obtain⟨q,J⟩:=choose_lt R;have K:((List.range l).map q).length=l:=(by simp);refine⟨some x,c,(List.range l).map q,by rw[K];exact A,fun hp=> ?_,by rw[K];unfold maxLen at hm;omega,fun e G=> ?_⟩
  ·obtain⟨b,Z,V⟩:=x;have Q:V=none:=(by simpa[Addr.add] using World.cell?_spot (J 0 (by omega)).1);subst Q;refine⟨b,Z,rfl,fun i I=> ?_⟩;obtain⟨N,O,_⟩:=J i (by omega);rw[ej] at N O;simp only[MY,List.getElem_range];exact⟨N,O⟩
  ·obtain⟨i,I,rfl⟩:=Na.1 G;exact(J i (List.mem_range.1 I)).2.2
theorem zP{V:Nat}{v:Value}{x:DataW H×List MemPlace}(h:DataW.trod enc Tryz.prog W 0 (fun _=>true) true V 22 [v]=some x):
  ∃(a:Option Addr) (c:Nat) (J:List (List Nat×Int)),v= .slice a J.length c∧iC W a J∧J.length≤9223372036854775807∧(∀e∈J,e.1.length≤9223372036854775807)∧∀e∈J,∀x∈e.1,x<256:=by
 rcases open_slice_pairs Tryz.underlying22 Tryz.underlying79 (by kernel_rfl) rfl rfl (by kernel_rfl) (by kernel_rfl) h with⟨G,_⟩|⟨x,l,c,m,fu,V0,V1,D0,D1,P0,P1,G,_,hl,hm,ab,_,hx⟩
 ·simp only[List.cons.injEq,and_true] at G;exact⟨none,0,[],G,(fun h=>absurd h (Nat.lt_irrefl _)),by simp,(fun e A=>by cases A),(fun e A=>by cases A)⟩
 ·simp only[List.cons.injEq,and_true] at G;have ae:m=c:=(by simpa using ab);have U:∀i,i<l→∃q:List Nat×Int,(∃E I,W.cell? (x.add (i*2))=some (.slice E q.1.length I)∧dW W E q.1)∧W.cell? (x.add (i*2+1))=some (.int .i64 q.2)∧q.1.length≤9223372036854775807∧∀x∈q.1,x<256:=fun i K=>by
   obtain⟨x0,x1,t0,t1⟩:=hx i (by omega);obtain⟨E,I,bl,g0,hr,Z,aa⟩:=yu t0;obtain⟨z,N,_⟩:=DataW.trod_int Tryz.underlying3 t1;simp only[List.cons.injEq,and_true] at N;exact⟨(bl,z),⟨E,I,by rw[x0,g0],hr⟩,by rw[x1,N],Z,aa⟩
  obtain⟨q,L⟩:=choose_lt U;have M:((List.range l).map q).length=l:=(by simp);refine⟨some x,c,(List.range l).map q,by rw[M];exact G,fun hp=> ?_,by rw[M];unfold maxLen at hm;omega,fun e A=> ?_,fun e A=> ?_⟩
  ·obtain⟨b,ad,Y⟩:=x;obtain⟨⟨_,_,ac,_⟩,_⟩:=L 0 (by omega);have R:Y=none:=(by simpa[Addr.add] using World.cell?_spot ac);subst R;refine⟨b,ad,rfl,fun i K=> ?_⟩;obtain⟨⟨E,I,O,kr⟩,Q,_⟩:=L i (by omega);rw[ej] at O Q;simp only[MY,List.getElem_range];exact⟨E,I,O,Q,kr⟩
  ·obtain⟨i,K,rfl⟩:=Na.1 A;exact(L i (List.mem_range.1 K)).2.2.1
  ·obtain⟨i,K,rfl⟩:=Na.1 A;exact(L i (List.mem_range.1 K)).2.2.2
theorem Hv{ac:Nat}{v:Value}{x:DataW H×List MemPlace}(h:DataW.trod enc Tryz.prog W 0 (fun _=>true) true ac 24 [v]=some x):
  ∃(a:Option Addr) (c:Nat) (G:List (Int×ByteArray×ByteArray×Int)),v= .slice a G.length c∧ob W a G∧G.length≤9223372036854775807∧(∀e∈G,e.2.1.size≤9223372036854775807∧e.2.2.1.size≤9223372036854775807)∧∀o∈G,(Lit.int .i64 o.2.2.2).wf=true:=by
 have ce:Tryz.prog.cellsOf 85=4:=(by kernel_rfl);have R:Tryz.prog.cellsOf 3=1:=(by kernel_rfl);have U:Tryz.prog.cellsOf 9=1:=(by kernel_rfl);rcases open_slice Tryz.underlying24 h with⟨E,_⟩|⟨x,l,c,m,fu,D,Pl,E,_,hl,hm,ag,_,hx⟩
 ·simp only[List.cons.injEq,and_true] at E;exact⟨none,0,[],E,(fun h=>absurd h (Nat.lt_irrefl _)),by simp,(fun e z=>by cases z),(fun e z=>by cases z)⟩
 ·simp only[List.cons.injEq,and_true] at E;have al:m=c:=(by simpa using ag);have ab:∀i,i<l→∃q:Int×ByteArray×ByteArray×Int,W.cell? (x.add (i*4))=some (.int .i64 q.1)∧W.cell? (x.add (i*4+1))=some (.string q.2.1)∧W.cell? (x.add (i*4+2))=some (.string q.2.2.1)∧W.cell? (x.add (i*4+3))=some (.int .i64 q.2.2.2)∧q.2.1.size≤9223372036854775807∧q.2.2.1.size≤9223372036854775807∧(Lit.int .i64 q.2.2.2).wf=true:=fun i A=>by
   obtain⟨af,h1,h2⟩:=hx i (by omega);rw[ce] at h1;obtain⟨_,K,J⟩:=World.cells?_some h1;obtain⟨xs,k,hk,am,_,aj,Q⟩:=DataW.trod_struct Tryz.underlying85 h2
   match af,K with
   |[v0,v1,v2,v3],_=>
    have V:=J 0 (by omega);have Y:=J 1 (by omega);have Z:=J 2 (by omega);have e3:=J 3 (by omega);rw[add_add] at V Y Z e3;have ad:xs.length=4:=aj
    match xs,ad with
    |[y0,y1,y2,y3],_=>
     have L:(DataW.trod enc Tryz.prog W 0 (fun _=>true) true k 3 (([v0,v1,v2,v3].drop 0).take (Tryz.prog.cellsOf 3))=some y0):=Q 0 _ rfl;rw[R] at L;have L:DataW.trod enc Tryz.prog W 0 (fun _=>true) true k 3 [v0]=some y0:=L;have M:(DataW.trod enc Tryz.prog W 0 (fun _=>true) true k 9 (([v0,v1,v2,v3].drop 1).take (Tryz.prog.cellsOf 9))=some y1):=Q 1 _ rfl;rw[U] at M;have M:DataW.trod enc Tryz.prog W 0 (fun _=>true) true k 9 [v1]=some y1:=M;have N:(DataW.trod enc Tryz.prog W 0 (fun _=>true) true k 9 (([v0,v1,v2,v3].drop 2).take (Tryz.prog.cellsOf 9))=some y2):=Q 2 _ rfl;rw[U] at N;have N:DataW.trod enc Tryz.prog W 0 (fun _=>true) true k 9 [v2]=some y2:=N;have O:(DataW.trod enc Tryz.prog W 0 (fun _=>true) true k 3 (([v0,v1,v2,v3].drop 3).take (Tryz.prog.cellsOf 3))=some y3):=Q 3 _ rfl;rw[R] at O;have O:DataW.trod enc Tryz.prog W 0 (fun _=>true) true k 3 [v3]=some y3:=O;obtain⟨z0,r0,_⟩:=DataW.trod_int Tryz.underlying3 L;obtain⟨s1,r1,_,ah⟩:=DataW.trod_string Tryz.underlying9 M;obtain⟨s2,r2,_,ai⟩:=DataW.trod_string Tryz.underlying9 N;obtain⟨z3,r3,_,w3⟩:=DataW.trod_int Tryz.underlying3 O;simp only[List.cons.injEq,and_true] at r0 r1 r2 r3;subst r0 r1 r2 r3;exact⟨(z0,s1,s2,z3),by simpa using V,by simpa using Y,by simpa using Z,by simpa using e3,by unfold maxLen at ah;simp only;omega,by unfold maxLen at ai;simp only;omega,w3⟩
  obtain⟨q,I⟩:=choose_lt ab;have K:((List.range l).map q).length=l:=(by simp);refine⟨some x,c,(List.range l).map q,by rw[K];exact E,fun hp=> ?_,by rw[K];unfold maxLen at hm;omega,fun e z=> ?_,fun e z=> ?_⟩
  ·obtain⟨b,ak,ae⟩:=x;have aa:ae=none:=(by simpa[Addr.add] using World.cell?_spot (I 0 (by omega)).1);subst aa;refine⟨b,ak,rfl,fun i A=> ?_⟩;obtain⟨k0,k1,k2,k3,_⟩:=I i (by omega);rw[ej] at k0 k1 k2 k3;simp only[MY,List.getElem_range];exact⟨k0,k1,k2,k3⟩
  ·obtain⟨i,A,rfl⟩:=Na.1 z;exact⟨(I i (List.mem_range.1 A)).2.2.2.2.1,(I i (List.mem_range.1 A)).2.2.2.2.2.1⟩
  ·obtain⟨i,A,rfl⟩:=Na.1 z;exact(I i (List.mem_range.1 A)).2.2.2.2.2.2
theorem Bn{N:Nat}{v:Value}{d:DataW H}{ps:List MemPlace}(O:Value.okWide Tryz.prog W .any N 26 v)(h:DataW.Trod enc Tryz.prog W 0 (fun _=>true) true 26 v d ps):∃D,mq W v D∧∀e∈D.nodes,∀x∈e.1,x<256:=by
 obtain⟨cs,rfl,L⟩:=okWide_struct Tryz.underlying26 O;obtain⟨aa,hf⟩:=h;obtain⟨xs,k,hk,ac,ab,Y,z⟩:=DataW.trod_struct Tryz.underlying26 hf;have ce:Tryz.prog.cellsOf 26=5:=(by kernel_rfl);have c3:Tryz.prog.cellsOf 3=1:=(by kernel_rfl);have cn:Tryz.prog.cellsOf 22=1:=(by kernel_rfl);have K:Tryz.prog.cellsOf 23=1:=(by kernel_rfl);have co:Tryz.prog.cellsOf 24=1:=(by kernel_rfl);rw[ce] at L;obtain⟨l⟩:=cs;have V:l.length=5:=by simpa using L
 match l,V with
 |[v0,v1,v2,v3,v4],_=>
  have Q:xs.length=5:=Y
  match xs,Q with
  |[y0,y1,y2,y3,y4],_=>
   have A:(DataW.trod enc Tryz.prog W 0 (fun _=>true) true k 22 (([v0,v1,v2,v3,v4].drop 0).take (Tryz.prog.cellsOf 22))=some y0):=z 0 _ rfl;rw[cn] at A;have A:DataW.trod enc Tryz.prog W 0 (fun _=>true) true k 22 [v0]=some y0:=A;have E:(DataW.trod enc Tryz.prog W 0 (fun _=>true) true k 23 (([v0,v1,v2,v3,v4].drop 1).take (Tryz.prog.cellsOf 23))=some y1):=z 1 _ rfl;rw[K] at E;have E:DataW.trod enc Tryz.prog W 0 (fun _=>true) true k 23 [v1]=some y1:=E;have G:(DataW.trod enc Tryz.prog W 0 (fun _=>true) true k 23 (([v0,v1,v2,v3,v4].drop 2).take (Tryz.prog.cellsOf 23))=some y2):=z 2 _ rfl;rw[K] at G;have G:DataW.trod enc Tryz.prog W 0 (fun _=>true) true k 23 [v2]=some y2:=G;have I:(DataW.trod enc Tryz.prog W 0 (fun _=>true) true k 24 (([v0,v1,v2,v3,v4].drop 3).take (Tryz.prog.cellsOf 24))=some y3):=z 3 _ rfl;rw[co] at I;have I:DataW.trod enc Tryz.prog W 0 (fun _=>true) true k 24 [v3]=some y3:=I;have J:(DataW.trod enc Tryz.prog W 0 (fun _=>true) true k 3 (([v0,v1,v2,v3,v4].drop 4).take (Tryz.prog.cellsOf 3))=some y4):=z 4 _ rfl;rw[c3] at J;have J:DataW.trod enc Tryz.prog W 0 (fun _=>true) true k 3 [v4]=some y4:=J;obtain⟨Z,c1,ns,rfl,r1,n1,h1,U⟩:=zP A;obtain⟨a2,c2,es,rfl,r2,n2,h2⟩:=uU E;obtain⟨a3,R,ks,rfl,r3,n3,h3⟩:=uU G;obtain⟨a4,c4,os,rfl,r4,n4,h4,h5⟩:=Hv I;obtain⟨M,r5,_⟩:=DataW.trod_int Tryz.underlying3 J;obtain rfl:v4= .int .i64 M:=(by injection r5);exact⟨⟨ns,es,ks,os,M⟩,⟨⟨Z,c1,a2,c2,a3,R,a4,c4,rfl,r1,r2,r3,r4⟩,n1,n2,n3,n4,h1,h2,h3,h4,h5⟩,U⟩
end
end
end Go.Proofs.YtpdbolihakojcaaGreatDoor
