package judge_test

import (
	"fmt"
	"math"
	"strings"
	"testing"

	"rampart/api"
	"rampart/judge"
)

func TestNumbersOfRules(t *testing.T) {
	if judge.Forged != ruForged || judge.Aborted != ruAborted || judge.Torn != ruTorn || judge.Lost != ruLost {
		t.Errorf("P24.1: the rules are %d, %d, %d, %d", judge.Forged, judge.Aborted, judge.Torn, judge.Lost)
	}
}

// row is a history and its findings.
type row struct{ h, want string }

func findAll(t *testing.T, rows []row) {
	t.Helper()
	for _, r := range rows {
		finds(t, r.h, r.want)
	}
}

func TestExamples(t *testing.T) {
	findAll(t, []row{
		{"0 1 write 65536 a=1 b=2; 0 1 ok 65536; 1 1 read a b; 1 1 ok 0 a=65536=1=a=b b=65536=2=a=b", ""},
		{"0 1 write 65536 a=1 b=2; 0 1 ok 65536; 1 1 read a b; 1 1 ok 0 a=65536=1=a=b b=0", "3 torn 62 0 65536; 3 lost 62 0 65536"},
		{"0 1 write 65536 a=1 b=2; 1 1 read a b; 1 1 ok 0 a=65536=1=a=b b=0; 0 1 ok 65536", "2 torn 62 0 65536"},
		{"0 1 write 65536 a=1 b=2; 0 1 ok 65536; 1 1 read a b; 1 1 ok 0 a=65536=9=a=b b=65536=2=a=b", "3 forged 61 65536 0"},
		{"0 1 write 65536 a=1 b=2; 0 1 aborted 65536; 1 1 read a b; 1 1 ok 0 a=65536=1=a=b b=65536=2=a=b", "3 aborted 61 65536 0; 3 aborted 62 65536 0"},
		{"0 1 write 65536 a=1 b=2; 0 1 ok 65536; 1 1 read a b; 1 1 ok 0 a=131072=1=a=b b=131072=2=a=b", "3 forged 61 131072 0; 3 forged 62 131072 0"},
	})
	refused(t, events(t, "0 1 ok 65536"))
	tells(t, judge.Finding{At: -1, Rule: 1, Key: "a", ID: 65536}, "")
	tells(t, judge.Finding{At: 0, Rule: 5, Key: "a", ID: 65536}, "")
	tells(t, judge.Finding{At: 0, Rule: 4, Other: 65537}, "0 lost - 0 65537")
	tells(t, judge.Finding{At: 3, Rule: 3, Key: "b", Other: 65536}, "3 torn 62 0 65536")
	tells(t, judge.Finding{At: 3, Rule: 1, Key: "a", ID: 65536}, "3 forged 61 65536 0")
}

func TestNothingToFind(t *testing.T) {
	findAll(t, []row{
		{"", ""},
		{"0 1 write 65536 a=1", ""},
		{"0 1 write 65536 a=1; 0 1 ok 65536", ""},
		{"0 1 write 65536 a=1; 0 1 aborted 65536; 1 1 read a", ""},
		{"0 1 write 65536 a=1; 0 1 ok 65536; 1 1 read; 1 1 ok 0", ""},
		{"0 1 write 65536 a=1; 0 1 ok 65536; 1 1 read a; 1 1 stale 0", ""},
		{"0 1 write 65536 a=1; 0 1 ok 65536; 1 1 read a; 1 1 aborted 0", ""},
		{"0 1 write 65536 a=1; 0 1 ok 65536; 1 1 read a; 1 1 invalid 0", ""},
		{"0 1 write 0 a=1; 0 1 invalid 0; 1 1 read a; 1 1 ok 0 a=0", ""},
		{"0 1 write 0 a=1; 0 1 exhausted 0; 1 1 read a; 1 1 ok 0 a=0", ""},
		{"0 1 read a b; 0 1 ok 0 a=0 b=0", ""},
	})
}

func TestForged(t *testing.T) {
	findAll(t, []row{
		// Where the write stands.
		{"1 1 read a; 1 1 ok 0 a=65536=1=a; 0 1 write 65536 a=1", "1 forged 61 65536 0"},
		{"1 1 read a; 1 1 ok 0 a=65536=1=a; 0 1 write 65536 a=1; 0 1 ok 65536", "1 forged 61 65536 0"},
		{"1 1 read a; 0 1 write 65536 a=1; 1 1 ok 0 a=65536=1=a", ""},
		{"0 1 write 65536 a=1; 1 1 read a; 1 1 ok 0 a=65536=1=a", ""},
		{"0 1 write 65536 a=1; 1 1 read a; 1 1 ok 0 a=65536=1=a; 0 1 ok 65536", ""},
		{"0 1 write 65536 a=1; 0 1 unknown 65536; 1 1 read a; 1 1 ok 0 a=65536=1=a", ""},
		{"0 1 write 65536 a=1; 1 1 read a; 0 1 unknown 65536; 1 1 ok 0 a=65536=1=a", ""},
		{"0 1 read a; 0 2 write 65536 a=1; 0 1 ok 0 a=65536=1=a; 0 3 read a; 0 3 ok 0 a=65536=1=a", ""},
		// Two reads, the write between their answers.
		{"1 1 read a; 2 1 read a; 1 1 ok 0 a=65536=1=a; 0 1 write 65536 a=1; 2 1 ok 0 a=65536=1=a", "2 forged 61 65536 0"},
	})
	// The name: another one than the write's.
	for _, id := range []uint64{1, 2, 65535, 65537, 131072, 1 << 32, math.MaxUint64} {
		name := fmt.Sprint(id)
		finds(t, "0 1 write 65536 a=1; 1 1 read a; 1 1 ok 0 a="+name+"=1=a", "2 forged 61 "+name+" 0")
		finds(t, "0 1 write 0 a=1; 0 1 invalid 0; 1 1 read a; 1 1 ok 0 a="+name+"=1=a", "3 forged 61 "+name+" 0")
	}
	finds(t, "15 1 write 18446744073709486095 a=1; 1 1 read a; 1 1 ok 0 a=18446744073709486095=1=a", "")
	// Bottom isn't forged, whatever was written.
	finds(t, "0 1 write 65536 a=1; 1 1 read a; 1 1 ok 0 a=0", "")
}

// The write of a, b, the empty key and a key with odd bytes; each told version but those of the first row has one thing wrong.
func TestForgedByOneByte(t *testing.T) {
	const all = "=%=%00=a=b"
	holds := func(v string, forged bool) {
		t.Helper()
		key, _, _ := strings.Cut(v, "=")
		want := ""
		if forged {
			want = modelTell(judge.Finding{At: 2, Rule: ruForged, Key: events(t, "0 1 read "+key)[0].Keys[0], ID: 65536})
		}
		finds(t, "0 1 write 65536 b=22 a=11 %00=%ff %=%; 1 1 read "+key+"; 1 1 ok 0 "+v, want)
	}
	for _, v := range []string{"a=65536=11", "b=65536=22", "%00=65536=%ff", "%=65536=%"} {
		holds(v+all, false)
		for _, wrong := range []string{"", "=%", "=%=%00", "=%=%00=a", "=%=%00=a=b=b", "=%=%00=a=b=c", "=%=%=%00=a=b", "=%=%00=b=a", "=b=a=%00=%", "=%00=%=a=b", "=%=%01=a=b", "=%=%00=a=bb", "=%=%00=A=b", "=%=%00=a", "=%00=a=b", "=a=b", "=%=%00=a=a", "=%=a=b", "=%=%00=a%00=b"} {
			holds(v+wrong, true)
		}
	}
	for _, v := range []string{
		"a=65536=1", "a=65536=111", "a=65536=12", "a=65536=10", "a=65536=%", "a=65536=22", "a=65536=11%00", "a=65536=%0011", "a=65536=%ff", "a=65536=%20",
		"b=65536=11", "b=65536=2", "b=65536=23", "b=65536=%", "%00=65536=%", "%00=65536=%fe", "%00=65536=%ff%ff", "%=65536=%00", "%=65536=11", "%=65536=%ff",
		"c=65536=11", "A=65536=11", "aa=65536=11", "a%00=65536=11", "%01=65536=%ff", "%00%00=65536=%ff", "ab=65536=11", "%20=65536=%", "c=65536=%", "%00=65536=11",
	} {
		holds(v+all, true)
		holds(v, true)
	}
}

func TestForgedOddWrites(t *testing.T) {
	findAll(t, []row{
		// A write of no pairs wrote nothing.
		{"0 1 write 65536; 1 1 read a; 1 1 ok 0 a=65536=%", "2 forged 61 65536 0"},
		{"0 1 write 65536; 1 1 read %; 1 1 ok 0 %=65536=%", "2 forged - 65536 0"},
		{"0 1 write 65536; 1 1 read a; 1 1 ok 0 a=65536=1=a", "2 forged 61 65536 0"},
		{"0 1 write 65536; 0 1 ok 65536; 1 1 read a; 1 1 ok 0 a=0", ""},
		// One key twice: both values are the write's, the key counts once.
		{"0 1 write 65536 a=1 a=2; 1 1 read a a a; 1 1 ok 0 a=65536=1=a a=65536=2=a a=65536=3=a", "2 forged 61 65536 0"},
		{"0 1 write 65536 a=2 a=1; 1 1 read a a; 1 1 ok 0 a=65536=1=a=a a=65536=2=a=a", "2 forged 61 65536 0; 2 forged 61 65536 0"},
		{"0 1 write 65536 a=1 a=1; 1 1 read a; 1 1 ok 0 a=65536=1=a", ""},
		{"0 1 write 65536 b=1 a=1 b=2 a=2; 1 1 read a b; 1 1 ok 0 a=65536=2=a=b b=65536=1=a=b", ""},
		{"0 1 write 65536 b=1 a=2; 1 1 read a b; 1 1 ok 0 a=65536=1=a=b b=65536=2=a=b", "2 forged 61 65536 0; 2 forged 62 65536 0"},
		// Two writes: what the one wrote isn't what the other did.
		{"0 1 write 65536 a=1; 1 1 write 65537 a=2; 2 1 read a a; 2 1 ok 0 a=65537=1=a a=65537=2=a", "3 forged 61 65537 0"},
		{"0 1 write 65536 a=1; 0 2 write 131072 a=2 b=3; 2 1 read a; 2 1 ok 0 a=131072=2=a", "3 forged 61 131072 0"},
		// The value and the keys wrong at once are one finding.
		{"0 1 write 65536 a=1; 1 1 read a; 1 1 ok 0 a=65536=2=b", "2 forged 61 65536 0"},
	})
}

func TestAborted(t *testing.T) {
	findAll(t, []row{
		// Wherever the answer stands.
		{"0 1 write 65536 a=1; 0 1 aborted 65536; 1 1 read a; 1 1 ok 0 a=65536=1=a", "3 aborted 61 65536 0"},
		{"0 1 write 65536 a=1; 1 1 read a; 0 1 aborted 65536; 1 1 ok 0 a=65536=1=a", "3 aborted 61 65536 0"},
		{"0 1 write 65536 a=1; 1 1 read a; 1 1 ok 0 a=65536=1=a; 0 1 aborted 65536", "2 aborted 61 65536 0"},
		{"1 1 read a; 0 1 write 65536 a=1; 0 1 aborted 65536; 1 1 ok 0 a=65536=1=a", "3 aborted 61 65536 0"},
		{"1 1 read a; 0 1 write 65536 a=1; 1 1 ok 0 a=65536=1=a; 2 1 read; 2 1 ok 0; 0 1 aborted 65536", "2 aborted 61 65536 0"},
		// Other answers, and none.
		{"0 1 write 65536 a=1; 1 1 read a; 1 1 ok 0 a=65536=1=a; 0 1 unknown 65536", ""},
		{"0 1 write 65536 a=1; 1 1 read a; 1 1 ok 0 a=65536=1=a; 0 1 ok 65536", ""},
		{"0 1 write 65536 a=1; 1 1 read a; 1 1 ok 0 a=65536=1=a; 1 2 read a; 1 2 aborted 0", ""},
		// Another write is aborted: the one above, the one below, that of another client with the same Txn.
		{"0 1 write 65536 a=1; 0 2 write 131072 a=1; 0 2 aborted 131072; 1 1 read a; 1 1 ok 0 a=65536=1=a", ""},
		{"0 1 write 65536 a=1; 0 2 write 131072 a=1; 0 1 aborted 65536; 1 1 read a; 1 1 ok 0 a=131072=1=a", ""},
		{"0 1 write 65536 a=1; 1 1 write 65537 a=1; 1 1 aborted 65537; 2 1 read a; 2 1 ok 0 a=65536=1=a", ""},
		{"0 1 write 65536 a=1; 1 1 write 65537 a=1; 1 1 aborted 65537; 2 1 read a; 2 1 ok 0 a=65537=1=a", "4 aborted 61 65537 0"},
		// Bottom is nobody's.
		{"0 1 write 65536 a=1; 0 1 aborted 65536; 1 1 read a; 1 1 ok 0 a=0", ""},
		{"0 1 write 0 a=1; 0 1 invalid 0; 1 1 read a; 1 1 ok 0 a=0; 1 2 read a; 1 2 aborted 0", ""},
		// Each key by itself.
		{"0 1 write 65536 a=1 b=2; 0 1 aborted 65536; 1 1 read a b a; 1 1 ok 0 a=65536=1=a=b b=65536=2=a=b a=65536=1=a=b", "3 aborted 61 65536 0; 3 aborted 62 65536 0; 3 aborted 61 65536 0"},
		// One read that was told it alone, another that wasn't.
		{"0 1 write 65536 a=1; 1 1 read a; 1 1 ok 0 a=65536=1=a; 0 1 aborted 65536; 1 2 read a; 1 2 ok 0 a=0", "2 aborted 61 65536 0"},
	})
}

func TestTorn(t *testing.T) {
	two := "0 1 write 65536 a=1 b=1; 1 1 write 65537 a=2 b=2; "
	three := two + "0 2 write 131072 a=3 c=3; "
	findAll(t, []row{
		{two + "2 1 read a b; 2 1 ok 0 a=65536=1=a=b b=65536=1=a=b", ""},
		{two + "2 1 read a b; 2 1 ok 0 a=65537=2=a=b b=65536=1=a=b", "3 torn 62 65536 65537"},
		{two + "2 1 read a b; 2 1 ok 0 a=65536=1=a=b b=65537=2=a=b", "3 torn 61 65536 65537"},
		{two + "2 1 read b a; 2 1 ok 0 b=65537=2=a=b a=65536=1=a=b", "3 torn 61 65536 65537"},
		{two + "2 1 read a b; 2 1 ok 0 a=65537=2=a=b b=65537=2=a=b", ""},
		{two + "2 1 read a b; 2 1 ok 0 a=0 b=65537=2=a=b", "3 torn 61 0 65537"},
		{two + "2 1 read a b; 2 1 ok 0 a=0 b=0", ""},
		// One key told twice.
		{two + "2 1 read a a; 2 1 ok 0 a=65536=1=a=b a=65537=2=a=b", "3 torn 61 65536 65537"},
		{two + "2 1 read a a; 2 1 ok 0 a=65537=2=a=b a=0", "3 torn 61 0 65537"},
		// The write of the other one didn't write the key, or one like it.
		{three + "2 1 read b c; 2 1 ok 0 b=0 c=131072=3=a=c", ""},
		{three + "2 1 read b c; 2 1 ok 0 b=65537=2=a=b c=131072=3=a=c", ""},
		{three + "2 1 read a c; 2 1 ok 0 a=65537=2=a=b c=131072=3=a=c", "4 torn 61 65537 131072"},
		{"0 1 write 65536 a=1 b=1; 2 1 read %00 b a%00 aa A %; 2 1 ok 0 %00=0 b=65536=1=a=b a%00=0 aa=0 A=0 %=0", ""},
		{"0 1 write 65536 %=1 b=1; 2 1 read % b; 2 1 ok 0 %=0 b=65536=1=%=b", "2 torn - 0 65536"},
		// The greatest of several.
		{three + "2 1 read a b c; 2 1 ok 0 a=65536=1=a=b b=65537=2=a=b c=131072=3=a=c", "4 torn 61 65536 131072"},
		{three + "2 1 read c b a; 2 1 ok 0 c=131072=3=a=c b=65537=2=a=b a=65536=1=a=b", "4 torn 61 65536 131072"},
		{three + "2 1 read a b c; 2 1 ok 0 a=0 b=65537=2=a=b c=0", "4 torn 61 0 65537"},
		{three + "2 1 read b a c; 2 1 ok 0 b=0 a=65537=2=a=b c=131072=3=a=c", "4 torn 62 0 65537; 4 torn 61 65537 131072"},
		// Where the other's write stands.
		{"2 1 read a b; 0 1 write 65536 a=1 b=1; 2 1 ok 0 a=65536=1=a=b b=0", "2 torn 62 0 65536"},
		{"2 1 read a b; 2 1 ok 0 a=65536=1=a=b b=0; 0 1 write 65536 a=1 b=1", "1 forged 61 65536 0"},
		{"2 1 read a b; 2 1 ok 0 a=65536=1=a=b b=0", "1 forged 61 65536 0"},
		// How it was answered doesn't count.
		{"0 1 write 65536 a=1 b=1; 0 1 unknown 65536; 2 1 read a b; 2 1 ok 0 a=65536=1=a=b b=0", "3 torn 62 0 65536"},
		{"0 1 write 65536 a=1 b=1; 2 1 read a b; 2 1 ok 0 a=65536=1=a=b b=0; 0 1 unknown 65536", "2 torn 62 0 65536"},
		// What another answer tells doesn't count.
		{two + "2 1 read a; 3 1 read b; 2 1 ok 0 a=65537=2=a=b; 3 1 ok 0 b=65536=1=a=b", ""},
		{two + "2 1 read a; 2 1 ok 0 a=65537=2=a=b; 2 2 read a b; 2 2 ok 0 a=65536=1=a=b b=65536=1=a=b", ""},
		// Below a key's name is enough: the version told needn't be a write's that stands there.
		{"0 1 write 65536 b=1; 0 2 write 131072 a=2 b=2; 2 1 read a b; 2 1 ok 0 a=131072=2=a=b b=65536=1=b", "3 torn 62 65536 131072"},
		// By one.
		{"0 1 write 65536 a=1; 1 1 write 65537 a=2 b=2; 2 1 write 65538 a=3; 3 1 read a b; 3 1 ok 0 a=65538=3=a b=65537=2=a=b", ""},
		{"0 1 write 65536 a=1; 1 1 write 65537 a=2 b=2; 2 1 write 65538 a=3; 3 1 read a b; 3 1 ok 0 a=65536=1=a b=65537=2=a=b", "4 torn 61 65536 65537"},
		// The greatest names.
		{"14 1 write 18446744073709486094 a=1; 15 1 write 18446744073709486095 a=2 b=2; 1 1 read a b; 1 1 ok 0 a=18446744073709486094=1=a b=18446744073709486095=2=a=b", "3 torn 61 18446744073709486094 18446744073709486095"},
	})
}

func TestLost(t *testing.T) {
	findAll(t, []row{
		// Where the write's answer stands: ahead of the request, between it and the answer, behind.
		{"0 1 write 65536 a=1; 0 1 ok 65536; 1 1 read a; 1 1 ok 0 a=0", "3 lost 61 0 65536"},
		{"0 1 write 65536 a=1; 1 1 read a; 0 1 ok 65536; 1 1 ok 0 a=0", ""},
		{"0 1 write 65536 a=1; 1 1 read a; 1 1 ok 0 a=0; 0 1 ok 65536", ""},
		{"1 1 read a; 0 1 write 65536 a=1; 0 1 ok 65536; 1 1 ok 0 a=0", ""},
		{"0 1 write 65536 a=1; 0 1 ok 65536; 2 1 read; 1 1 read a; 2 1 ok 0; 1 1 ok 0 a=0", "5 lost 61 0 65536"},
		{"1 1 read a; 0 1 write 65536 a=1; 0 1 ok 65536; 2 1 read a; 1 1 ok 0 a=0; 2 1 ok 0 a=0", "5 lost 61 0 65536"},
		// How it was answered.
		{"0 1 write 65536 a=1; 0 1 unknown 65536; 1 1 read a; 1 1 ok 0 a=0", ""},
		{"0 1 write 65536 a=1; 0 1 aborted 65536; 1 1 read a; 1 1 ok 0 a=0", ""},
		{"0 1 write 65536 a=1; 1 1 read a; 1 1 ok 0 a=0", ""},
		{"0 1 write 65536 a=1; 1 1 read; 1 1 ok 0; 1 2 read a; 1 2 ok 0 a=0", ""},
		// What it wrote.
		{"0 1 write 65536 a=1; 0 1 ok 65536; 1 1 read b aa a%00 A %; 1 1 ok 0 b=0 aa=0 a%00=0 A=0 %=0", ""},
		{"0 1 write 65536; 0 1 ok 65536; 1 1 read a %; 1 1 ok 0 a=0 %=0", ""},
		{"0 1 write 65536 %=%; 0 1 ok 65536; 1 1 read a %; 1 1 ok 0 a=0 %=0", "3 lost - 0 65536"},
		{"0 1 write 65536 a=1 a=2; 0 1 ok 65536; 1 1 read a; 1 1 ok 0 a=0", "3 lost 61 0 65536"},
		// By one, and of the other clients.
		{"0 1 write 65536 a=1; 1 1 write 65537 a=2; 1 1 ok 65537; 2 1 read a; 2 1 ok 0 a=65536=1=a", "4 lost 61 65536 65537"},
		{"0 1 write 65536 a=1; 1 1 write 65537 a=2; 1 1 ok 65537; 2 1 read a; 2 1 ok 0 a=65537=2=a", ""},
		{"0 1 write 65536 a=1; 1 1 write 65537 a=2; 0 1 ok 65536; 2 1 read a; 2 1 ok 0 a=65537=2=a", ""},
		{"0 1 write 65536 a=1; 0 1 ok 65536; 0 2 write 131072 a=2; 0 2 ok 131072; 0 3 read a; 0 3 ok 0 a=65536=1=a", "5 lost 61 65536 131072"},
		// The greatest of several, in whichever order they were made and answered.
		{"0 1 write 65536 a=1; 0 1 ok 65536; 0 2 write 131072 a=2; 0 2 ok 131072; 1 1 read a; 1 1 ok 0 a=0", "5 lost 61 0 131072"},
		{"1 1 write 131073 a=2; 0 1 write 65536 a=1; 1 1 ok 131073; 0 1 ok 65536; 2 1 read a; 2 1 ok 0 a=0", "5 lost 61 0 131073"},
		{"0 1 write 65536 a=1; 1 1 write 131073 a=2; 1 1 ok 131073; 0 1 ok 65536; 2 1 read a; 2 1 ok 0 a=65536=1=a", "5 lost 61 65536 131073"},
		{"0 1 write 65536 a=1; 1 1 write 131073 a=2; 0 1 ok 65536; 1 1 ok 131073; 2 1 read a; 2 1 ok 0 a=65536=1=a", "5 lost 61 65536 131073"},
		{"0 1 write 65536 a=1; 1 1 write 131073 a=2; 0 1 ok 65536; 2 1 read a; 1 1 ok 131073; 2 1 ok 0 a=0", "5 lost 61 0 65536"},
		{"0 1 write 65536 a=1; 1 1 write 131073 b=2; 0 1 ok 65536; 1 1 ok 131073; 2 1 read a; 2 1 ok 0 a=0", "5 lost 61 0 65536"},
		{"0 1 write 65536 a=1; 1 1 write 131073 a=2; 0 1 ok 65536; 1 1 unknown 131073; 2 1 read a; 2 1 ok 0 a=0", "5 lost 61 0 65536"},
		// Of two reads under way at once, each by its own request.
		{"1 1 read a; 0 1 write 65536 a=1; 0 1 ok 65536; 1 2 read a; 0 2 write 131072 a=2; 0 2 ok 131072; 1 3 read a; 1 3 ok 0 a=0; 1 2 ok 0 a=0; 1 1 ok 0 a=0", "7 lost 61 0 131072; 8 lost 61 0 65536"},
		{"1 1 read a; 0 1 write 65536 a=1; 0 1 ok 65536; 1 2 read a; 1 1 ok 0 a=0; 1 2 ok 0 a=0", "5 lost 61 0 65536"},
	})
}

// Two rules at once, three, and all four; and their order.
func TestRulesTogether(t *testing.T) {
	w := "0 1 write 65536 a=1; "
	later := "1 1 write 65537 a=2 b=2; "
	findAll(t, []row{
		{w + "0 1 aborted 65536; 2 1 read a; 2 1 ok 0 a=65536=9=a", "3 forged 61 65536 0; 3 aborted 61 65536 0"},
		{"2 1 read a; 2 1 ok 0 a=65536=1=a; " + w + "0 1 aborted 65536", "1 forged 61 65536 0; 1 aborted 61 65536 0"},
		{w + later + "2 1 read a b; 2 1 ok 0 a=65536=9=a b=65537=2=a=b", "3 forged 61 65536 0; 3 torn 61 65536 65537"},
		{w + later + "1 1 ok 65537; 2 1 read a; 2 1 ok 0 a=65536=9=a", "4 forged 61 65536 0; 4 lost 61 65536 65537"},
		{w + later + "0 1 aborted 65536; 2 1 read a b; 2 1 ok 0 a=65536=1=a b=65537=2=a=b", "4 aborted 61 65536 0; 4 torn 61 65536 65537"},
		{w + later + "0 1 aborted 65536; 1 1 ok 65537; 2 1 read a; 2 1 ok 0 a=65536=1=a", "5 aborted 61 65536 0; 5 lost 61 65536 65537"},
		{w + later + "1 1 ok 65537; 2 1 read a b; 2 1 ok 0 a=65536=1=a b=65537=2=a=b", "4 torn 61 65536 65537; 4 lost 61 65536 65537"},
		{w + later + "1 1 ok 65537; 2 1 read a b; 2 1 ok 0 a=65536=9=a b=65537=2=a=b", "4 forged 61 65536 0; 4 torn 61 65536 65537; 4 lost 61 65536 65537"},
		{w + later + "0 1 aborted 65536; 2 1 read a b; 2 1 ok 0 a=65536=9=a b=65537=2=a=b", "4 forged 61 65536 0; 4 aborted 61 65536 0; 4 torn 61 65536 65537"},
		{w + later + "0 1 aborted 65536; 1 1 ok 65537; 2 1 read a; 2 1 ok 0 a=65536=9=a", "5 forged 61 65536 0; 5 aborted 61 65536 0; 5 lost 61 65536 65537"},
		{w + later + "0 1 aborted 65536; 1 1 ok 65537; 2 1 read a b; 2 1 ok 0 a=65536=1=a b=65537=2=a=b", "5 aborted 61 65536 0; 5 torn 61 65536 65537; 5 lost 61 65536 65537"},
		{w + later + "1 1 ok 65537; 2 1 read b a; 2 1 ok 0 b=65537=2=a=b a=65536=9=a; 0 1 aborted 65536", "4 forged 61 65536 0; 4 aborted 61 65536 0; 4 torn 61 65536 65537; 4 lost 61 65536 65537"},
		// Torn by one write, lost by another; forged and told all the same of others.
		{"0 1 write 65536 a=1; 1 1 write 65537 a=2 b=2; 2 1 write 65538 a=3; 2 1 ok 65538; 3 1 read a b; 3 1 ok 0 a=65536=1=a b=65537=2=a=b", "5 torn 61 65536 65537; 5 lost 61 65536 65538"},
		{"0 1 write 65536 a=1; 1 1 write 65537 a=2 b=2; 1 1 ok 65537; 2 1 write 65538 a=3 c=3; 3 1 read a c; 3 1 ok 0 a=65536=1=a c=65538=3=a=c", "5 torn 61 65536 65538; 5 lost 61 65536 65537"},
		{w + later + "2 1 read a b; 2 1 ok 0 a=0 b=65537=7", "3 torn 61 0 65537; 3 forged 62 65537 0"},
		{w + later + "1 1 aborted 65537; 2 1 read a b; 2 1 ok 0 a=65536=1=a b=65537=2=a=b", "4 torn 61 65536 65537; 4 aborted 62 65537 0"},
		{w + "0 1 ok 65536; 2 1 read a; 2 1 ok 0 a=5=1=a", "3 forged 61 5 0; 3 lost 61 5 65536"},
		{"2 1 read a b; 2 1 ok 0 a=5=1=a=b b=65536=1=a=b; 0 1 write 65536 a=1 b=1", "1 forged 61 5 0; 1 forged 62 65536 0"},
	})
}

func TestOrderOfFindings(t *testing.T) {
	findAll(t, []row{
		// In an answer in the order of its versions, which isn't that of keys, nor that of names.
		{"0 1 write 65536 a=1 b=1 c=1; 0 1 ok 65536; 1 1 read c a b a; 1 1 ok 0 c=65536=2=a=b=c a=0 b=5=x a=65536=1=a=b=c",
			"3 forged 63 65536 0; 3 torn 61 0 65536; 3 lost 61 0 65536; 3 forged 62 5 0; 3 torn 62 5 65536; 3 lost 62 5 65536"},
		// Over several answers by the places of those, whichever request was first, and whichever client's.
		{"0 1 write 65536 a=1; 0 1 ok 65536; 3 1 read a; 2 1 read a; 1 1 read a; 1 1 ok 0 a=0; 2 1 ok 0 a=0; 3 1 ok 0 a=0", "5 lost 61 0 65536; 6 lost 61 0 65536; 7 lost 61 0 65536"},
		{"0 1 write 65536 b=1; 0 1 ok 65536; 1 1 read b; 1 2 read a; 1 2 ok 0 a=7=x; 1 1 ok 0 b=0", "4 forged 61 7 0; 5 lost 62 0 65536"},
		{"0 1 write 65536 a=1; 1 1 read a; 1 1 ok 0 a=65536=2=a; 0 1 aborted 65536; 1 2 read a; 1 2 ok 0 a=65536=1=a", "2 forged 61 65536 0; 2 aborted 61 65536 0; 5 aborted 61 65536 0"},
	})
}

func TestTell(t *testing.T) {
	const top = math.MaxUint64
	for _, at := range []int{math.MinInt, -65536, -2, -1, 0, 1, 2, 9, 10, 65536, math.MaxInt - 1, math.MaxInt} {
		for _, rule := range []int{math.MinInt, -256, -4, -1, 0, 1, 2, 3, 4, 5, 6, 255, 256, 257, 1 << 32, 1<<32 + 1, math.MaxInt} {
			for _, key := range []string{"", "a", "\x00", "\x0f\xf0", "-", "a b\n", "é", strings.Repeat("\xab", 70000)} {
				f := judge.Finding{At: at, Rule: rule, Key: key, ID: 65536, Other: top}
				tells(t, f, modelTell(f))
			}
		}
	}
	for b := range 256 {
		c := string([]byte{byte(b)})
		hex := fmt.Sprintf("%02x", b)
		tells(t, judge.Finding{Rule: ruTorn, Key: c}, "0 torn "+hex+" 0 0")
		tells(t, judge.Finding{Rule: ruTorn, Key: "z" + c + c}, "0 torn 7a"+hex+hex+" 0 0")
	}
	for rule, word := range map[int]string{ruForged: "forged", ruAborted: "aborted", ruTorn: "torn", ruLost: "lost"} {
		tells(t, judge.Finding{Rule: rule}, "0 "+word+" - 0 0")
		tells(t, judge.Finding{At: math.MaxInt, Rule: rule, Key: "\x00\xff", ID: top, Other: top - 1}, "9223372036854775807 "+word+" 00ff 18446744073709551615 18446744073709551614")
		tells(t, judge.Finding{At: -1, Rule: rule, Key: "a", ID: top}, "")
	}
	for _, rule := range []int{0, 5, -1} {
		tells(t, judge.Finding{At: 3, Rule: rule, Key: "a", ID: 65536, Other: 65537}, "")
	}
	// What no Judge tells is told all the same.
	tells(t, judge.Finding{At: 1, Rule: ruForged, Key: "k", ID: 1<<63 - 1, Other: 1 << 63}, "1 forged 6b 9223372036854775807 9223372036854775808")
}

// with is a list with one event changed.
func with(l []api.Event, at int, change func(*api.Event)) []api.Event {
	out := roomy(l)
	change(&out[at])
	return out
}

func TestWhatIsNotProper(t *testing.T) {
	good := events(t, "0 1 write 65536 a=1 b=2; 0 1 ok 65536; 1 1 read a b; 1 1 ok 0 a=65536=9=a=b b=0")
	if found, err := onJudge(t, good); len(found) != 3 || err != ok {
		t.Fatalf("P24.1: Judge of %s is %q, %d", show(good), lines(found), err)
	}
	for _, s := range []string{
		"0 1 ok 65536", "1 1 ok 0 a=0", "0 2 read a", "0 1 read a; 0 1 read a", "0 1 read a; 0 1 ok 0 b=0", "0 1 read a; 0 1 ok 0", "0 1 read a; 0 1 ok 0 a=0 a=0", "0 1 read a b; 0 1 ok 0 b=0 a=0",
		"0 1 write 65537 a=1", "0 1 write 65535 a=1", "0 1 write 0 a=1", "0 1 write 0 a=1; 1 1 read; 0 1 invalid 0", "0 1 write 131072; 0 2 write 65536", "0 1 write 65536; 0 2 write 65536", "1 1 write 65536",
		"0 1 write 65536; 0 1 ok 65537", "0 1 write 65536; 0 1 ok 0", "0 1 write 65536; 0 1 stale 65536", "0 1 write 65536; 0 1 invalid 65536", "0 1 write 65536 a=1; 0 1 ok 65536 a=0", "0 1 write 65536; 0 1 ok 65536; 0 1 ok 65536", "0 1 write 65536; 0 1 ok 65536; 0 1 aborted 65536",
		"0 1 read a; 0 1 stale 0 a=0", "0 1 read a; 0 1 ok 65536 a=0", "0 1 read a; 0 1 unknown 0", "0 1 read a; 0 1 exhausted 0", "0 1 read a; 1 1 read; 0 1 invalid 0", "0 1 read a; 0 1 ok 0 a=0; 0 1 ok 0 a=0",
	} {
		refused(t, events(t, s))
		refused(t, append(events(t, s), read(9, 1)))
		refused(t, append([]api.Event{read(9, 1)}, events(t, s)...))
	}
	for at := range good {
		for _, change := range []func(e *api.Event){
			func(e *api.Event) { e.Kind = 0 }, func(e *api.Event) { e.Kind = 4 }, func(e *api.Event) { e.Kind = -1 }, func(e *api.Event) { e.Client = -1 }, func(e *api.Event) { e.Client = 16 }, func(e *api.Event) { e.Client = math.MaxInt },
			func(e *api.Event) { e.Txn = 0 }, func(e *api.Event) { e.Txn = -1 }, func(e *api.Event) { e.Txn = math.MaxInt }, func(e *api.Event) { e.Answer.Txn = 7 }, func(e *api.Event) { e.Answer.Result = 7 }, func(e *api.Event) { e.Answer.Result = -1 },
			func(e *api.Event) { e.Answer.ID = 9 }, func(e *api.Event) { e.Keys = append(e.Keys, "z") }, func(e *api.Event) { e.Answer.Versions = append(e.Answer.Versions, api.Version{Key: "z"}) },
		} {
			refused(t, with(good, at, change))
		}
	}
	refused(t, with(good, 3, func(e *api.Event) { e.Answer.Versions[1].Value = "x" }))
	refused(t, with(good, 3, func(e *api.Event) { e.Answer.Versions[1].Keys = []string{""} }))
	refused(t, []api.Event{{}})
	refused(t, make([]api.Event, 1000))
}
