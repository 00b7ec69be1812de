import Derived.Test.YtkkdfgnnlpohlaaGreatDoorPkk
namespace Go.Proofs.YtkkdfgnnlpohlaaGreatDoor
set_option maxRecDepth 20000
set_option linter.unusedVariables false
set_option linter.unusedSimpArgs false
set_option maxHeartbeats 4000000
open Go.RowKit Go.Proofs.Tryz
variable {W X Y w w' w0 wr : World} {A B at_ b b2 base' c cap e f g go gs hi i j k lo m n s u val z : Nat} {E G I J K L M N O u0 u1 u2 v0 v1 v2 v3 v4 v5 v6 x y : Value} {o : Oper} {Q : Exit → Act → World → Prop} {cs tmps : Array Value} {t : TypeId} {p : Addr} {l : List Nat} {bvs xs : List Value} {a : List UInt8} {first ok : Bool}
theorem H9(l:LN)(k:Nat)(E:k<l.length)(A:∀j (h:j<l.length),j<k→l[j]≠10)(z:l[k]=10):gh l=k+1:=by
 induction l generalizing k with
 |nil=>simp at E
 |cons x r ih=>
  cases k with
  |zero=>simp at z;simp[gh,z]
  |succ k=>
   have G:x≠10:=A 0 (by simp) (by omega);simp only[gh];rw[OR G,ih k (by simpa using E) (fun j J I=>by have:=A (j+1) (by simp;omega) (by omega);simpa using this) (by simpa using z)]
theorem M9:(prog.info? 52).map (fun i=>(i.zero,i.size,i.bytes))=some (some (sN),1,24):=by kernel_rfl
theorem mI{L:Array Oper}{K:List Oper}{E:Act}(w:World)(U:o.guard=none)(s x:Operand)
  (ho:o.op= .call {callee:= .builtin .append,args:= #[s,x],argTypes:= #[56,56]})
  (A:Nat) (v:Value) (z:List Value) (u:Value) (I c:Nat) (hs:E.eval s=v) (hx:E.eval x=sS I 1 c) (R:w.ownsRow A 52 1 v z.length z)
  (h0:w.cell? ⟨I,0,none⟩=some u) (hu:u.oneCell'=true) (aa:z.length≤1048576) (N:A≤w.heap.size)
  (h:∀G w',w'.ownsRow A 52 1 G (z.length+1) (z++[u])→w.grownBy w' v.ownBlock→wpList prog L Q K (E.put o.dst G) w'):wpList prog L Q (o::K) E w:=by
 obtain⟨i0,hi,V,Y,Z⟩:=info_parts M9;refine wpList_append_own w U s x 56 ho A 52 i0 (sN) 1 24 underlying56 hi V Y Z rfl (by decide) v z.length z hs R ⟨I,0,none⟩ 1 c [u] hx (by simp) ?_ ?_ (by unfold maxLen;omega) (by omega) N ?_
 ·intro j y J;rw[ez]
  match j with
  |0=>simp only[Py,OY] at J;rw[←J];exact h0
  |j+1=>simp at J
 ·intro y M;simp only[Pd,Pw,or_false] at M;rw[M];exact hu
 ·intro G w' O hg _;exact h G w' O hg
def lnV(b off cap:Nat)(x:Nat×Nat):Value:= .slice (some ⟨b,off+x.1,none⟩) x.2 (cap-x.1)
theorem JZ{v:Value}{E:List Value}(h:w.ownsRow z e 1 v n E):∃a cap,v= .slice a n cap:=by
 rcases h.2 with⟨rfl,A⟩|⟨g,cap,G,rfl,_⟩
 ·exact⟨none,0,by rw[A]⟩
 ·exact⟨_,cap,rfl⟩
theorem pl{v:Value}{E:List Value}(h:w.ownsRow z e 1 v n E)(L:Below B w w')(K:w.heap.size≤B):w'.ownsRow z e 1 v n E:=by
 refine⟨h.1,?_⟩;rcases h.2 with M|⟨g,cap,I,N,J,A,G⟩
 ·exact .inl M
 ·exact .inr ⟨g,cap,I,N,J,(L.block g (Pb (OT A) K)).trans A,G⟩
theorem rJ(b z cap:Nat)(d:LN)(w:World)(hd:d.length≤1048576)(ah:d.length≤cap)(R:eh w b z d)(ab:b<w.heap.size):
  Calls prog 130 #[.slice (some ⟨b,z,none⟩) d.length cap] w fun e w'=>∃v,e= .returned v∧w'.ownsRow w.heap.size 52 1 v (eP d).length ((eP d).map (lnV b z cap))∧Below w.heap.size w w':=by
 go_enter func130,ntmps130;go_wp2;go_loopw [3,4,5,8] (fun v f _ i wr=>∃(k p:Nat) (pre:List (Nat×Nat)),k≤d.length∧p≤k∧i=iI k∧f=iI p∧wr.ownsRow w.heap.size 52 1 v pre.length (pre.map (lnV b z cap))∧pre.length≤p∧pre++gA (d.length-p) p (d.drop p)=eP d∧(∀j (h:j<d.length),p≤j→j<k→d[j]≠10)∧Below w.heap.size w wr) (fun _ _ _ i _=>d.length-(intOf i).toNat)
 case atStart=>exact⟨0,0,[],O4 _,OV _,rfl,rfl,World.ownsRow_nil _ _ _ _,OV _,by simp[eP],fun j _ _ h=>by omega,OX _ _⟩
 case round=>
  obtain⟨k,p,pre,hk,am,rfl,rfl,G,ag,A,I,E⟩:=hrel;have HT:=a8 R;by_cases ae:k<d.length
  ·have ac:=R.below E ab k ae;clear R;by_cases V:d[k]=10
   ·rw[V] at ac;have hcut:gh (d.drop p)=k-p+1:=H9 _ _ (by rw[O9];omega) (fun j U ak=>by rw[List.getElem_drop];exact I _ (by rw[O9] at U;omega) (by omega) (by omega)) (by rw[List.getElem_drop];simp only[show p+(k-p)=k from by omega];exact V);have O:=mX (by omega:p<d.length) hcut;rw[O,show p+(k-p+1)=k+1 from by omega] at A;have Q:=a8 A;have ad:(p:Int)≤(k:Int)+1:=(by omega);have ai:(k:Int)+1≤(cap:Int):=(by omega);have af:¬cap=p:=(by omega);have al:k+1-p=k-p+1:=(by omega);have L:=nAl wr (.cells #[lnV b z cap (p,k-p+1)] 52);have J:(wr.alloc (.cells #[lnV b z cap (p,k-p+1)] 52)).ownsRow w.heap.size 52 1 u3 (pre.map (lnV b z cap)).length (pre.map (lnV b z cap)):=(by rw[OW];exact pl G L (OV _));have M:(wr.alloc (.cells #[lnV b z cap (p,k-p+1)] 52)).cell? ⟨wr.heap.size,0,none⟩=some (lnV b z cap (p,k-p+1)):=(by rw[OK _ _ _ _ _ _ (OP wr _)];rfl);have aa:=E.size;have K:=a8 (E.alloc aa (.cells #[lnV b z cap (p,k-p+1)] 52));clear A O E G L I;simp only[lnV] at M J K;go_wp2_with (at_builtin;refine mI _ rfl _ _ rfl w.heap.size u3 _ _ wr.heap.size 1 rfl rfl J M rfl (by rw[OW];omega) (by simp;omega) ?_;intro v5 w5 N Z)
    have Y:=K.grown Z (by simp;omega) (fun g h=>(OF J g h).1);go_roundw
    case rel=>
     refine⟨k+1,k+1,pre++[(p,k-p+1)],by omega,OV _,by go_num,by go_num,?_,by rw[O1];simp;omega,by rw[PH];exact Q.out,fun j _ h1 h2=>by omega,Y⟩;rw[O1,O7];rw[OW] at N;exact N
    case measure=>simp[intOf];omega
   ·have he:((d[k]:Int)==10)=false:=(by simp;omega);have Q:=a8 A;have HO:=a8 G;have K:=a8 E;have HN:=a8 I;clear A G E I;go_wp2;go_roundw
    case rel=>
     refine⟨k+1,p,pre,by omega,by omega,by go_num,rfl,HO,ag,Q,fun j U h1 h2=> ?_,K⟩;by_cases e:j=k
     ·subst e;exact V
     ·exact HN.out j U h1 (by omega)
    case measure=>simp[intOf];omega
  ·obtain rfl:k=d.length:=(by omega);by_cases hp:p<d.length
   ·have hcut:gh (d.drop p)=d.length-p:=by
     rw[tt _ (fun h=>by
      obtain⟨j,U,e⟩:=Pr h;rw[List.getElem_drop] at e;rw[O9] at U;exact I (p+j) (by omega) (by omega) (by omega) e),O9]
    have O:=mX hp hcut;rw[O,show p+(d.length-p)=d.length from by omega,iV _ _ _ (by simp)] at A;have Q:=a8 A;have ad:(p:Int)<(d.length:Int):=(by omega);have aj:(p:Int)≤(d.length:Int):=(by omega);have af:¬cap=p:=(by omega);have L:=nAl wr (.cells #[lnV b z cap (p,d.length-p)] 52);have J:(wr.alloc (.cells #[lnV b z cap (p,d.length-p)] 52)).ownsRow w.heap.size 52 1 u3 (pre.map (lnV b z cap)).length (pre.map (lnV b z cap)):=(by rw[OW];exact pl G L (OV _));have M:(wr.alloc (.cells #[lnV b z cap (p,d.length-p)] 52)).cell? ⟨wr.heap.size,0,none⟩=some (lnV b z cap (p,d.length-p)):=(by rw[OK _ _ _ _ _ _ (OP wr _)];rfl);have aa:=E.size;have K:=a8 (E.alloc aa (.cells #[lnV b z cap (p,d.length-p)] 52));clear A O E G L I R;simp only[lnV] at M J K;go_wp2_with (at_builtin;refine mI _ rfl _ _ rfl w.heap.size u3 _ _ wr.heap.size 1 rfl rfl J M rfl (by rw[OW];omega) (by simp;omega) ?_;intro v5 w5 N Z)
    have Y:=K.grown Z (by simp;omega) (fun g h=>(OF J g h).1);go_ret;refine⟨_,rfl,?_,Y⟩;rw[←Q.out,O1,O7];rw[OW] at N;exact N
   ·obtain rfl:p=d.length:=(by omega);rw[iV _ _ _ (by simp),Pm] at A;subst A;have HO:=a8 G;clear G I R;go_wp2;go_ret;exact⟨_,rfl,HO,E⟩
def iS(l:LN):Int:=if fi l then(fW l:Int) else-1
theorem NN:(fw lP).toList=[70,114,111,109,32]:=by rw[oF];rfl
theorem AP(b N cap:Nat)(l:LN)(w:World)(hl:l.length≤1048576)(aa:l.length≤cap)(I:eh w b N l)(hb:∀x∈l,x<256):
  Calls prog 131 #[.slice (some ⟨b,N,none⟩) l.length cap] w fun e w'=>e= .returned (.int .i64 (iS l))∧w'=w:=by
 go_enter func131,ntmps131;go_wp2;go_loopw [3] (fun i wr=>∃k:Nat,k≤l.length∧i=iI k∧(∀j (h:j<l.length),j<k→l[j]=62)∧wr=w) (fun i _=>l.length-(intOf i).toNat)
 case atStart=>exact⟨0,O4 _,rfl,fun j _ h=>by omega,rfl⟩
 case round=>
  obtain⟨k,hk,rfl,G,rfl⟩:=hrel;by_cases Q:k<l.length
  ·have U:=I k Q;by_cases M:l[k]=62
   ·rw[M] at U;have Z:=a8 G;clear G I;go_wp2;go_roundw
    case rel=>exact⟨k+1,by omega,by go_num,fun j L ad=>by
      by_cases e:j=k
      ·subst e;exact M
      ·exact Z.out j L (by omega),by simp⟩
    case measure=>simp[intOf];omega
   ·have he:((l[k]:Int)==62)=false:=(by simp;omega);have R:=um l k Q G M;have K:fi l=decide ((l.drop k).take 5=lP):=(by unfold fi;rw[R];rfl);clear G;by_cases h5:k+5≤l.length
    ·have Y:=rb l k 5 (by omega);have O:=fY wr (some ⟨b,N+k,none⟩) (cap-k) ((l.drop k).take 5) (eJ (iw I k 5));rw[Y] at O;have J:((fw ((l.drop k).take 5)).toList==(fw lP).toList)=fi l:=by
      rw[K];exact qj (fun x hx=>hb x (Pk (Pi hx))) (by decide)
     rw[NN] at J;generalize fw ((l.drop k).take 5)=S at O J;have ae:¬cap=k:=(by omega);have V:(k:Int)+5≤(l.length:Int):=(by omega);have ab:(k:Int)+5≤(cap:Int):=(by omega);have ac:(k:Int)≤(k:Int)+5:=(by omega);clear K I;by_cases A:fi l=true
     ·rw[A] at J;have z:iS l=(k:Int):=(by unfold iS;rw[A,R];rfl);have E:=a8 z;clear z;go_wp2;go_ret;exact⟨by rw[E.out];rfl,rfl⟩
     ·simp only[Bool.not_eq_true] at A;rw[A] at J;have z:iS l= -1:=(by unfold iS;rw[A];rfl);have E:=a8 z;clear z;go_wp2;go_ret;exact⟨by rw[E.out];rfl,rfl⟩
    ·have A:fi l=false:=by
      rw[K];exact OM fun e=>by have:=OL List.length e;simp[lP] at this;omega
     have z:iS l= -1:=(by unfold iS;rw[A];rfl);have E:=a8 z;clear z;have V:¬(k:Int)+5≤(l.length:Int):=(by omega);clear K I;go_wp2;go_ret;exact⟨by rw[E.out];rfl,rfl⟩
  ·obtain rfl:k=l.length:=(by omega);have A:fi l=false:=tT l (fun j L=>G j L L);have z:iS l= -1:=(by unfold iS;rw[A];rfl);have E:=a8 z;clear z;clear G I;go_wp2;go_ret;exact⟨by rw[E.out];rfl,rfl⟩
theorem BY(d:LN){s:Nat}{xs:List (Nat×Nat)}(h:lH d s xs):∀x∈xs,x.1+x.2≤d.length:=by
 induction xs generalizing s with
 |nil=>intro x z;cases z
 |cons y r ih=>
  obtain⟨E,G,A⟩:=h;intro x z;rcases Pd.1 z with rfl|z
  ·omega
  ·exact ih A x z
theorem wG{a:OA}{z:List Value}{u:Value}(h:w.ownsRow A e 1 (.slice a n cap) n z)(I:z[k]? =some u)(G:0<n):∃g,a=some ⟨g,0,none⟩∧w.cell? ⟨g,k,none⟩=some u:=by
 obtain⟨g,rfl,E⟩:=uy h G;exact⟨g,rfl,E k u I⟩
theorem xl(b z cap n:Nat)(l:LN)(w:World)(J:l.length=n)(I:n≤1048576)(A:n≤cap)(E:eh w b z l)(G:∀x∈l,x<256):
  Calls prog 131 #[.slice (some ⟨b,z,none⟩) n cap] w fun e w'=>e= .returned (.int .i64 (iS l))∧w'=w:=by
 subst J;exact AP b z cap l w I A E G
theorem AF{l:LN}(h:fi l=true):5≤l.length:=by
 unfold fi at h;have:=OL List.length (OU h);simp[lP] at this;omega
theorem Gs(l:LN):(0<iS l)↔(fi l&&decide (0<fW l))=true:=by
 unfold iS;by_cases h:fi l=true
 ·rw[OS h];simp[h]
 ·rw[OR h];simp[h]
theorem Kw(d:LN)(xs:List (Nat×Nat))(k:Nat):((xs.take k).flatMap (kq d)).length≤(xs.flatMap (kq d)).length:=by
 conv=>rhs;rw[←Pz k xs]
 rw[PX,O1];omega
theorem sD(b z cap:Nat)(d:LN)(w:World)(hd:d.length≤1048576)(aj:d.length≤cap)(hT:eh w b z d)(ai:b<w.heap.size)(hb:∀x∈d,x<256):
  Calls prog 165 #[.slice (some ⟨b,z,none⟩) d.length cap] w fun e w'=>∃v,e= .returned v∧dR w' w.heap.size v (d6 d)∧Below w.heap.size w w':=by
 have au:=od d;go_enter func165,ntmps165;go_wp2_with fail;refine(rJ b z cap d w hd aj hT ai).mono ?_;rintro e M ⟨v1,rfl,N,J⟩;have ae:=BY d (jK d);have ap:(eP d).length≤d.length:=pp _ _ _;have hq:d6 d=(eP d).flatMap (kq d):=rfl;have O:=fun k=>Kw d (eP d) k;rw[←hq] at O;generalize eP d=xs at N ae ap hq O;obtain⟨a1,c1,rfl⟩:=JZ N;have ak:=a8 N;have al:=a8 (hT.below J ai);clear N hT;go_wp2;go_loopw [3,5,9] (fun v _ i wr=>∃k:Nat,k≤xs.length∧i=iI k∧dR wr M.heap.size v ((xs.take k).flatMap (kq d))∧Below M.heap.size M wr) (fun _ _ i _=>xs.length-(intOf i).toNat)
 case atStart=>exact⟨0,O4 _,rfl,by simpa using dR.nil _ _,OX _ _⟩
 case round=>
  obtain⟨k,hk,rfl,L,E⟩:=hrel;by_cases Z:k<xs.length
  ·have ag:=pl ak E (OV _);obtain⟨g1,rfl,hc⟩:=wG (k:=k) ag (OZ (by simpa using Z)) (by omega);have hx:=ae xs[k] (O6 Z);have U:=a8 (O5 Z);have af:=a8 (O k);rw[Po] at hc;generalize xs[k]=x at hx U hc;simp only[lnV] at hc;have av:=E.size;have ah:=al.below (E.mono (OV _)) (by have:=J.size;omega);have I:eh wr b (z+x.1) (dS d x):=lU (fun _=>ah) x hx;have ac:=oD d x hx;have am:∀y∈dS d x,y<256:=fun y hy=>hb y (oy hy);have K:=Gs (dS d x);have hM:=a8 (xl b (z+x.1) (cap-x.1) x.2 (dS d x) wr ac (by omega) (by omega) I am);generalize ao:iS (dS d x)=mv at K hM;have A:=a8 L;have HB:=a8 E;clear L E ah ag ao;go_wp2_with fail;refine(hM.out).mono ?_;rintro e w2 ⟨rfl,rfl⟩;by_cases G:(fi (dS d x)&&decide (0<fW (dS d x)))=true
   ·have h0:(0:Int)<mv:=K.2 G;have Q:kq d x=(dS d x).drop 1:=(by unfold kq;rw[OS G]);have aw:5≤x.2:=by
     rw[Bool.and_eq_true] at G;have:=AF G.1;omega
    have an:((dS d x).drop 1).length=x.2-1:=(by rw[O9,ac]);have ad:=eJ (I.drop 1);have ar:(1:Int)≤(x.2:Int):=(by omega);have aq:¬cap-x.1=1:=(by omega);have aa:=A.out;have R:=OF A.out;clear I K;go_wp2_with (at_builtin;refine fE _ rfl (.tmp 18) (.tmp 19) rfl M.heap.size u3 _ ((dS d x).drop 1) (x.2-1) an rfl aa ⟨b,z+x.1+1,none⟩ (cap-x.1-1) rfl ad (by have:=af.out;omega) (by omega) ?_;intro v6 w6 ab Y)
    have V:=HB.grown Y (by omega) (fun g h=>(R g h).1);go_roundw
    case rel=>
     refine⟨k+1,by omega,by go_num,?_,V⟩;rw[U.out,PX];simp only[List.flatMap_cons,List.flatMap_nil,Pm,Q];exact ab
    case measure=>simp[intOf];omega
   ·have h0:¬(0:Int)<mv:=fun h=>G (K.1 h);have Q:kq d x=dS d x:=(by unfold kq;rw[OR G]);have ad:=eJ I;have aa:=A.out;have R:=OF A.out;clear I K;go_wp2_with (at_builtin;refine fE _ rfl (.tmp 18) (.tmp 19) rfl M.heap.size u3 _ (dS d x) x.2 ac rfl aa ⟨b,z+x.1,none⟩ (cap-x.1) rfl ad (by have:=af.out;omega) (by omega) ?_;intro v6 w6 ab Y)
    have V:=HB.grown Y (by omega) (fun g h=>(R g h).1);go_roundw
    case rel=>
     refine⟨k+1,by omega,by go_num,?_,V⟩;rw[U.out,PX];simp only[List.flatMap_cons,List.flatMap_nil,Pm,Q];exact ab
    case measure=>simp[intOf];omega
  ·obtain rfl:k=xs.length:=(by omega);rw[PA,←hq] at L;have A:=a8 L;clear L;go_wp2;go_ret;exact⟨_,rfl,A.mono J.size,J.trans (E.mono J.size)⟩
structure Spg(w wr:World)(lo2:Nat)(sv v:Value)(ex nx:Nat)(xs:List Value)(vs:List S3)(ls:List (LN)):Prop where
 b0:gu wr w.heap.size (.bool false) (sN)
 b1:gu wr (w.heap.size+1) (.bool true) v
 st:World.ownsRow wr (w.heap.size+2) ex 1 sv nx xs
 stlt:∀g,sv.ownBlock=some g→g<lo2
 os:gQ wr lo2 v vs ls
 bel:Below w.heap.size w wr
 sz:lo2≤wr.heap.size
 lo:w.heap.size+2≤lo2
theorem Spg.below{W':World}{v:Value}{E I:Nat}{K:List S3}{G:List (LN)}(h:Spg w W A J v E I xs K G)(z:Below W.heap.size W W'):Spg w W' A J v E I xs K G:=
 ⟨h.b0.below z h.b0.lt,h.b1.below z h.b1.lt,lh h.st (fun g _ L=>z.block g L),h.stlt,h.os.below z (OV _),h.bel.trans (z.mono h.bel.size),O0 h.sz z.size,h.lo⟩
structure Ct(w w3:World)(lo2:Nat)(sv v:Value)(ex nx:Nat)(xs:List Value):Prop where
 b0:gu w3 w.heap.size (.bool false) (sN)
 b1:gu w3 (w.heap.size+1) (.bool true) v
 st:World.ownsRow w3 (w.heap.size+2) ex 1 sv nx xs
 bel:Below w.heap.size w w3
 sz:lo2≤w3.heap.size
def NG(w w2:World)(lo2:Nat)(sv v u:Value)(p q:Nat)(ex nx:Nat)(xs:List Value)(vs:List S3)(ls:List (LN))(U:LN):Prop:=
 ∀Y:World,Y.heap=(w2.alloc (.cells #[.int .i64 (p:Int),.int .i64 (q:Int),u] 182)).heap→Y.os=w2.os→Y.tape=w2.tape→Y.output=w2.output→
  gQ Y lo2 v vs ls∧Y.cell? ⟨w2.heap.size,0,none⟩=some (iv p)∧Y.cell? ⟨w2.heap.size,1,none⟩=some (iv q)∧Y.cell? ⟨w2.heap.size,2,none⟩=some u∧dR Y lo2 u U∧lo2≤Y.heap.size∧∀w3,Y.grownBy w3 v.ownBlock→Ct w w3 lo2 sv v ex nx xs
theorem L8{z A:World}{E:Nat}{v u:Value}{p q:Nat}{G I:Nat}{R:List S3}{Q:List (LN)}{U:LN}(h:NG w z E J v u p q G I xs R Q U)(O:Y.grownBy A v.ownBlock)(K:Y.heap=(z.alloc (.cells #[.int .i64 (p:Int),.int .i64 (q:Int),u] 182)).heap:=by rfl)(L:Y.os=z.os:=by rfl)(M:Y.tape=z.tape:=by rfl)(N:Y.output=z.output:=by rfl):Ct w A E J v G I xs:=
 (h Y K L M N).2.2.2.2.2.2 A O
theorem L7{E:World}{A v:Value}{G J:Nat}{K:List S3}{I:List (LN)}(h:Ct w E z A v G J xs)(L:w.heap.size+2≤z)(N:∀g,A.ownBlock=some g→g<z)(M:gQ E z v3 K I):Spg w (E.setCell ⟨w.heap.size+1,1,none⟩ v3) z A v3 G J xs K I:=
 ⟨h.b0.other (show w.heap.size≠w.heap.size+1 by omega) _,h.b1.set1 _,ownsRow_setCell_below h.st (show w.heap.size+1<w.heap.size+2 by omega) _,N,M.other (show w.heap.size+1<z by omega) _,h.bel.setCell (p:=⟨w.heap.size+1,1,none⟩) (by simp) _,by simpa using h.sz,L⟩
theorem Md{A:World}{R:Nat}{V v:Value}{ex nx:Nat}{vs:List S3}{ls:List (LN)}(S:Spg w A R V v ex nx xs vs ls)(b o n c p q:Nat)(U:LN)(hn:U.length=n)(hU:U.length≤1048576)(hc:U.length≤c)(hT:eh A b o U)(ae:b<A.heap.size)(hb:∀x∈U,x<256):
  ∀W:World,W.heap=A.heap→W.os=A.os→W.tape=A.tape→W.output=A.output→Calls prog 165 #[.slice (some ⟨b,o,none⟩) n c] W fun e J=>∃E G,e= .returned (.slice E (d6 U).length G)∧(∀y∈vs,y.2.2.ownBlock=none∨y.2.2.ownBlock≠(Value.slice E (d6 U).length G).ownBlock)∧
   NG w J R V v (.slice E (d6 U).length G) p q ex nx xs vs ls (d6 U)∧J.cell? ⟨w.heap.size+1,1,none⟩=some v∧w.heap.size+1<J.heap.size:=by
 intro W M e2 e3 e4;subst hn;have ad:eh W b o U:=fun i hi=>(by rw[←hT i hi];exact World.cell?_of_block (by rw[M]));refine(sD b o c U W hU hc ad (by rw[M];exact ae) hb).mono ?_;rintro e J ⟨v2,rfl,O,N⟩;obtain⟨E,G,rfl⟩:=O.slice;rw[M] at O;have hB:Below A.heap.size A J:=⟨N.os.trans e2,N.tape.trans e3,N.output.trans e4,by rw[←M];exact N.size,fun k hk=>by rw[←M];exact N.block k (by rw[M];exact hk)⟩
 have K:=S.below hB;have aj:=hB.size;refine⟨E,G,rfl,S.os.ne_new O,?_,K.b1.c1,K.b1.lt⟩;have aa:=nAl J (.cells #[iI p,iI q,.slice E (d6 U).length G] 182);have I:=K.below aa;have ag:dR _ R (.slice E (d6 U).length G) (d6 U):=(O.below aa (OV _)).mono S.sz;have ah:=OP J (.cells #[iI p,iI q,.slice E (d6 U).length G] 182);intro Y z y2 y3 y4;have Z:Y.heap[J.heap.size]? =some (.cells #[iI p,iI q,.slice E (d6 U).length G] 182 (0,0)):=(by rw[z];exact ah);have Q:∀g,v.ownBlock=some g→R≤g:=fun g L=>(OF K.os.row g L).1;refine⟨wY I.os z,by rw[OK _ _ _ _ _ _ Z];rfl,by rw[OK _ _ _ _ _ _ Z];rfl,by rw[OK _ _ _ _ _ _ Z];rfl,kZ ag z,by rw[z];exact I.sz,fun w3 L=> ?_⟩;have c0:gu Y w.heap.size (.bool false) (sN):=(by unfold gu;rw[z];exact I.b0);have c1:gu Y (w.heap.size+1) (.bool true) v:=(by unfold gu;rw[z];exact I.b1);have ac:World.ownsRow Y (w.heap.size+2) ex 1 V nx xs:=kZ I.st z;have ai:=S.lo;refine⟨c0.grown L (fun e=>by have:=Q _ e.symm;omega),c1.grown L (fun e=>by have:=Q _ e.symm;omega),OE ac L ?_,?_,O0 (by rw[z];exact I.sz) L.size⟩
 ·cases hb':V.ownBlock with
  |none=>exact .inl rfl
  |some g=>exact .inr fun e=>by have:=Q g e.symm;have:=S.stlt g hb';omega
 ·have ab:Below w.heap.size w Y:=⟨y2.trans K.bel.os,y3.trans K.bel.tape,y4.trans K.bel.output,by rw[z];exact I.bel.size,fun k hk=>by rw[z];exact I.bel.block k hk⟩
  exact ab.grown L (by have:=ab.size;omega) (fun g af=>by have:=Q g af;omega)
theorem J3(v:Value)(w:World):(callFunc 165 #[v]).run prog w= .ok (.enter 165 #[v]) w:=by
 kernel_rfl
theorem uX{G:Array Oper}{z:Act}{K:Act→World→Prop}{E:Prop}(x:Operand)(ts:Array TypeId)(A:o.guard=none)
  (I:o.op= .call {callee:= .value (.func 165),args:= #[x],argTypes:=ts}) (v:Value) (M:z.eval x=v) (h:Calls prog 165 #[v] w fun e w'=>∃u,e= .returned u∧K (z.put o.dst u) w'):
  if Region.wanted o (yielded G z.tmps)=true then Oper.wp prog o z w K Q else E:=by
 have L:Region.wanted o (yielded G z.tmps)=true:=(by simp[Region.wanted,A]);rw[OS L];obtain⟨R,V,Y,U,N,O⟩:=o;simp only at I A;subst I;unfold Oper.wp;rw[execOp_call_go];simp only[List.map_toArray,Pe,PD,M,List.append_toArray,PC,Pm,J3,Oper.upon_enter];refine h.mono ?_;rintro e w' ⟨u,rfl,J⟩;exact J
theorem Av{l:LN}(z:∀x∈l,x<256):((fw (l.take 10)).toList==[70,114,111,109,32,109,97,105,108,10])=decide (l.take 10=gJ):=by
 have h:=qj (l:=l.take 10) (m:=gJ) (fun x A=>z x (Pi A)) (by decide);rw[oF gJ] at h;exact h
theorem wX{l:LN}(A:eh W g 0 l)(z:10≤l.length):(convert 52 9 (sS g 10 c)).run prog W= .ok (.string (fw (l.take 10))) W:=by
 have h:=fY W (some ⟨g,0,none⟩) c (l.take 10) (eJ (by have:=iw A 0 10;simpa using this));rw[Pa,Nat.min_eq_left z] at h;exact h
theorem xp{l:LN}(z:eh W g 0 l)(m:Nat)(A:l.length=m+1):∃x:Nat,W.cell? ⟨g,m,none⟩=some (.int .u8 (x:Int))∧(x=10↔l.drop (l.length-1)=[10]):=by
 have h:=z m (by omega);refine⟨l[m]'(by omega),by simpa using h,?_⟩;rw[show l.length-1=m from by omega,Pv (by omega),List.drop_of_length_le (by omega)];simp
theorem zc(b z cap n:Nat)(d:LN)(w:World)(G:d.length=n)(E:n≤1048576)(A:eh w b z d):
  Calls prog 102 #[.slice (some ⟨b,z,none⟩) n cap] w fun e w'=>e= .returned (.bool (ka d))∧w'=w:=by
 subst G;exact zg b z cap d w E A
theorem tS{l:LN}(z:eh W g 0 l):eh W g 10 (et l):=by
 have h:=iw (z.drop 10) 0 (l.length-11);unfold et;simpa using h
theorem xf{l:LN}(h:10<l.length):(et l).length=l.length-1-10:=by
 unfold et;rw[Pa,O9];omega
theorem rK(Z g c en:Nat)(l:LN)(W:World)(U:l.length≤1048576)(hc:l.length≤c)(A:eh W g 0 l)(K:∀x∈l,x<256)(z:eB l=false):
  Calls prog 132 #[pP Z,sS g l.length c,.int .i64 (en:Int)] W fun e w'=>e= .returned (.bool false)∧w'=W:=by
 by_cases aa:l.length≤10
 ·have hi:(l.length:Int)≤10:=(by omega);go_enter func132,ntmps132;go_wp2;go_ret;exact⟨rfl,rfl⟩
 ·have hi:¬(l.length:Int)≤10:=(by omega);obtain⟨m,E⟩:∃m,l.length=m+1:=⟨l.length-1,by omega⟩
  have O:=wX (c:=c) A (by omega);have L:=Av K;have ab:(10:Int)≤(c:Int):=(by omega);obtain⟨x,hx,I⟩:=xp A m E;by_cases G:l.take 10=gJ
  ·rw[ON G] at L;generalize fw (l.take 10)=S at O L;by_cases N:x=10
   ·have R:=tS A;have Q:=xf (l:=l) (by omega);have M:ka (et l)=true:=by
     unfold eB at z;rw[ON (⟨by omega,G,I.1 N⟩:10<l.length∧l.take 10=gJ∧l.drop (l.length-1)=[10])] at z;simpa using z
    have J:=zc g 10 (c-10) (l.length-1-10) (et l) W Q (by omega) R;rw[M] at J;have Y:((x:Int) !=10)=false:=(by rw[N];rfl);rw[E] at J⊢;rw[E] at hi U;have ae:¬c=10:=(by omega);have ac:(10:Int)≤(m:Int):=(by omega);have ad:(m:Int)≤(c:Int):=(by omega);have V:m+1-1=m:=(by omega);rw[V] at J;clear R Q M I z K A E G;go_enter func132,ntmps132;go_wp2_with fail;refine J.mono ?_;rintro e w' ⟨rfl,rfl⟩;go_wp2;go_ret;exact⟨rfl,rfl⟩
   ·have Y:((x:Int) !=10)=true:=(by simp;omega);rw[E];rw[E] at hi U;clear I z K A G;go_enter func132,ntmps132;go_wp2;go_ret;exact⟨rfl,rfl⟩
  ·rw[OM G] at L;generalize fw (l.take 10)=S at O L;clear I z K A hx;go_enter func132,ntmps132;go_wp2;go_ret;exact⟨rfl,rfl⟩
theorem pQ{R:Nat}{sv v:Value}{ex nx:Nat}{vs:List S3}{E:List (LN)}(K:Spg w W R sv v ex nx xs vs E)(g c st A:Nat)(l:LN)(an:A=st+l.length)(ax:A≤1048576)(hc:l.length≤c)(M:eh W g 0 l)(hg:g<W.heap.size)(V:∀x∈l,x<256)(I:eB l=true)(ar:E.length≤1048576):
  Calls prog 132 #[pP (w.heap.size+1),sS g l.length c,.int .i64 (A:Int)] W fun e w'=>∃v3 u,e= .returned (.bool true)∧Spg w w' R sv v3 ex nx xs (vs++[(st,A,u)]) (E++[d6 (et l)]):=by
 obtain⟨al,hh,_,aa⟩:=je I;have hi:¬(l.length:Int)≤10:=(by omega);obtain⟨m,N⟩:∃m,l.length=m+1:=⟨l.length-1,by omega⟩
 have ae:=wX (c:=c) M (by omega);have Y:=Av V;rw[ON hh] at Y;have am:(10:Int)≤(c:Int):=(by omega);obtain⟨x,Z,ai⟩:=xp M m N;have ab:x=10:=ai.2 (by
  unfold eB at I;simp only[Bool.and_eq_true,decide_eq_true_eq] at I;exact I.1.2.2)
 have aw:((x:Int) !=10)=false:=(by rw[ab];rfl);have Q:=tS M;have O:=xf (l:=l) (by omega);have ad:∀x∈et l,x<256:=fun x Z=>V x (Pk (Pi Z));have J:=zc g 10 (c-10) (l.length-1-10) (et l) W O (by omega) Q;rw[aa] at J;have G:=Md K g 10 (l.length-1-10) (c-10) st A (et l) O (by omega) (by omega) Q hg ad;generalize d6 (et l)=U at G;generalize fw (l.take 10)=S at ae Y;obtain⟨va,vc,rfl⟩:=K.os.slice;have q1:=K.b1.c1;have ac:=a8 K;have az:(A:Int)-((m:Int)+1)=(st:Int):=(by omega);have ay:(st:Int)≤1048576:=(by omega);have aA:IntKind.i64.wrap (st:Int)=(st:Int):=(by rw[IntKind.wrap_i64];omega);have av:¬c=10:=(by omega);have ap:(10:Int)≤(m:Int):=(by omega);have aq:(m:Int)≤(c:Int):=(by omega);have au:m+1≤1048576:=(by omega);rw[N] at J G⊢;rw[N] at hi;rw[show m+1-1=m from by omega] at J G;clear ad O Q ai I V M N hh aa K ab an al hc;go_enter func132,ntmps132;go_wp2_with fail;refine J.mono ?_;rintro e w' ⟨rfl,rfl⟩;have aj:=a8 G;clear J G ae Y Z aw av ap aq hi am au;go_wp2;go_region_law (first
  |(refine uX (.tmp 43) #[52] (by rfl) (by rfl) (.slice (some ⟨g,10,none⟩) (m-10) (c-10)) (by simp[go_sem]) ?_;refine(aj.out _ ?_ ?_ ?_ ?_).mono ?_;(exact rfl);(exact rfl);(exact rfl);(exact rfl);rintro e w2 ⟨a2,c2,rfl,ag,ha,p1,l2⟩;have ak:=a8 ag;have z:=a8 ha;clear ag ha;refine⟨_,rfl,?_⟩)
  |(refine jX _ (by rfl) (.tmp 37) (.tmp 46) (by rfl) R (.slice va E.length vc) vs E st A (.slice a2 U.length c2) U w2.heap.size 1 (by simp[go_sem]) (by simp[go_sem]) ?_ ?_ ?_ ?_ ?_ ?_ ?_ ?_ ?_;(refine(z.out _ ?_ ?_ ?_ ?_).1<;>rfl);(refine(z.out _ ?_ ?_ ?_ ?_).2.1<;>rfl);(refine(z.out _ ?_ ?_ ?_ ?_).2.2.1<;>rfl);(refine(z.out _ ?_ ?_ ?_ ?_).2.2.2.1<;>rfl);(refine(z.out _ ?_ ?_ ?_ ?_).2.2.2.2.1<;>rfl);(exact ak.out);(exact ar);(refine(z.out _ ?_ ?_ ?_ ?_).2.2.2.2.2.1<;>rfl);intro v3 w3 ah ao;have L:=L8 z ao;obtain⟨a3,c3,rfl⟩:=ah.slice;have p3:=L.b1.c0;have f3:=L.b1.fz 0;have p4:=L.b1.c1;have f4:=L.b1.fz 1))
 all_goals
  have af:=L7 L ac.lo ac.stlt ah;rw[show(E++[U]).length=E.length+1 from by simp] at af;go_wp2;go_ret;exact⟨_,_,rfl,af⟩
end Go.Proofs.YtkkdfgnnlpohlaaGreatDoor
