package dict

import (
	"bytes"
	"math"
	"math/rand"
	"reflect"
	"slices"
	"strings"
	"testing"

	"trunkline/api"
	"trunkline/avp"
)

// rule returns a rule without a Vendor and Must.
func rule(code uint32, kind, least, most int) api.Rule {
	return api.Rule{Code: code, Type: kind, Least: least, Most: most}
}

// made returns an AVP without a Vendor and flags.
func made(code uint32, data string) api.Avp {
	return api.Avp{Code: code, Data: []byte(data)}
}

// times returns n AVPs like a.
func times(n int, a api.Avp) []api.Avp {
	return slices.Repeat([]api.Avp{a}, n)
}

// many returns n rules with the codes 1 to n, of which nothing is asked but that they are Octets.
func many(n int) []api.Rule {
	rules := make([]api.Rule, n)
	for i := range rules {
		rules[i] = rule(uint32(i+1), api.Octets, 0, 64)
	}
	return rules
}

// same holds two AVPs against each other, where no Data are as good as empty ones.
func same(a, b api.Avp) bool {
	return a.Code == b.Code && a.Vendor == b.Vendor && a.Must == b.Must && a.Protected == b.Protected && bytes.Equal(a.Data, b.Data)
}

// plainSound does what the chapter asks of Sound in the plainest way.
func plainSound(rules []api.Rule) bool {
	if len(rules) > 64 {
		return false
	}
	for i, a := range rules {
		for _, b := range rules[:i] {
			if a.Code == b.Code && a.Vendor == b.Vendor {
				return false
			}
		}
		if a.Type < 1 || a.Type > 11 || a.Least < 0 || a.Least > a.Most || a.Most > 64 {
			return false
		}
	}
	return true
}

// number returns how many of a list are of a rule.
func number(r api.Rule, list []api.Avp) int {
	n := 0
	for _, a := range list {
		if a.Code == r.Code && a.Vendor == r.Vendor {
			n++
		}
	}
	return n
}

// plainJudge does what the chapter asks of Judge in the plainest way: it counts anew for every AVP.
func plainJudge(rules []api.Rule, list []api.Avp) (int, []api.Avp, api.Errno) {
	if !plainSound(rules) {
		return 0, nil, api.ErrForm
	}
	for i, a := range list {
		known := false
		for _, r := range rules {
			if r.Code != a.Code || r.Vendor != a.Vendor {
				continue
			}
			known = true
			fits := avp.Fits(r.Type, a.Data)
			if r.Most == 0 {
				return 5008, list[i : i+1], api.OK
			}
			if number(r, list[:i+1]) > r.Most {
				return 5009, list[i : i+1], api.OK
			}
			if fits == api.ErrShort {
				return 5014, list[i : i+1], api.OK
			}
			if fits == api.ErrRange {
				return 5004, list[i : i+1], api.OK
			}
		}
		if !known && a.Must {
			return 5001, list[i : i+1], api.OK
		}
	}
	for _, r := range rules {
		if number(r, list) < r.Least {
			return 5005, []api.Avp{{Code: r.Code, Vendor: r.Vendor, Must: r.Must, Data: make([]byte, avp.Least(r.Type))}}, api.OK
		}
	}
	return 2001, nil, api.OK
}

// sounds holds Sound against plainSound.
func sounds(t testing.TB, rules []api.Rule) {
	t.Helper()
	if got, want := Sound(rules), plainSound(rules); got != want {
		t.Fatalf("Sound(%v): %t, want %t", rules, got, want)
	}
}

// judges holds Judge against plainJudge.
func judges(t testing.TB, rules []api.Rule, list []api.Avp) {
	t.Helper()
	code, failed, e := Judge(rules, list)
	wantCode, wantFailed, wantE := plainJudge(rules, list)
	if code != wantCode || !slices.EqualFunc(failed, wantFailed, same) || e != wantE {
		t.Fatalf("Judge(%v, %v): %d, %v, %d, want %d, %v, %d", rules, list, code, failed, e, wantCode, wantFailed, wantE)
	}
}

// finds checks that Judge answers a code, with these AVPs as failed.
func finds(t testing.TB, what string, rules []api.Rule, list []api.Avp, want int, wanted ...api.Avp) {
	t.Helper()
	code, failed, e := Judge(rules, list)
	if code != want || !slices.EqualFunc(failed, wanted, same) || e != api.OK {
		t.Errorf("%s: %d, %v, %d, want %d, %v", what, code, failed, e, want, wanted)
	}
	judges(t, rules, list)
}

// fits checks that Judge finds nothing.
func fits(t testing.TB, what string, rules []api.Rule, list []api.Avp) {
	t.Helper()
	finds(t, what, rules, list, api.Success)
}

// refuses checks that rules may not be, and that Judge says so whatever the list is.
func refuses(t testing.TB, what string, rules []api.Rule) {
	t.Helper()
	if Sound(rules) {
		t.Errorf("%s: Sound", what)
	}
	for _, list := range [][]api.Avp{nil, {}, {made(1, "a")}, {{Code: 99, Must: true}}, times(65, made(1, "")), {made(263, "\xff")}} {
		if code, failed, e := Judge(rules, list); code != 0 || len(failed) != 0 || e != api.ErrForm {
			t.Errorf("%s: Judge of %v: %d, %v, %d", what, list, code, failed, e)
		}
	}
}

// accepts checks that rules may be.
func accepts(t testing.TB, what string, rules []api.Rule) {
	t.Helper()
	if !Sound(rules) {
		t.Errorf("%s: not Sound", what)
	}
	if code, _, e := Judge(rules, nil); code == 0 || e != api.OK {
		t.Errorf("%s: Judge: %d, %d", what, code, e)
	}
}

func TestExample(t *testing.T) {
	rules := []api.Rule{{Code: 263, Type: api.Text, Must: true, Least: 1, Most: 1}}
	one, two := made(263, "one"), made(263, "two")
	finds(t, "no AVP", rules, nil, 5005, api.Avp{Code: 263, Must: true})
	fits(t, "one", rules, []api.Avp{one})
	finds(t, "two", rules, []api.Avp{one, two}, 5009, two)
	finds(t, "the byte ff", rules, []api.Avp{made(263, "\xff")}, 5004, made(263, "\xff"))
	unknown := api.Avp{Code: 264, Must: true, Data: []byte("x")}
	finds(t, "an unknown Code with Must", rules, []api.Avp{one, unknown}, 5001, unknown)
	fits(t, "an unknown Code without Must", rules, []api.Avp{made(264, "x"), one})
}

func TestSoundOfNumbersOfRules(t *testing.T) {
	accepts(t, "nil", nil)
	accepts(t, "no rule", []api.Rule{})
	accepts(t, "one rule", many(1))
	accepts(t, "MaxAvps but one", many(63))
	accepts(t, "MaxAvps", many(64))
	refuses(t, "one more than MaxAvps", many(65))
	refuses(t, "many", many(100000))
	refuses(t, "rules that are zeros", make([]api.Rule, 2))
}

func TestSoundOfTwoOfOneAttribute(t *testing.T) {
	for n := 2; n <= 64; n++ {
		for _, i := range []int{0, 1, n / 2, n - 2, n - 1} {
			for j := range n {
				rules := many(n)
				rules[j].Code = rules[i].Code
				if i != j {
					refuses(t, "two rules of one attribute", rules)
				}
				rules[j].Vendor = 1
				accepts(t, "two rules that part in the Vendor alone", rules)
				rules[i].Vendor = 1
				if i != j {
					refuses(t, "two rules of one attribute with a Vendor", rules)
				}
				rules[j].Vendor = 1<<32 - 1
				accepts(t, "two rules that part in the Vendor alone, which both have", rules)
			}
		}
	}
	two := []api.Rule{rule(5, api.Octets, 0, 1), {Code: 5, Type: api.Text, Must: true, Least: 2, Most: 3}}
	refuses(t, "two rules of one attribute that part in all else", two)
	refuses(t, "two rules of the Code 0", []api.Rule{rule(0, 1, 0, 1), rule(0, 1, 0, 1)})
	accepts(t, "Code and Vendor the other way round", []api.Rule{{Code: 1, Vendor: 2, Type: 1}, {Code: 2, Vendor: 1, Type: 1}})
	accepts(t, "numbers that are one as text", []api.Rule{{Code: 1, Vendor: 11, Type: 1}, {Code: 11, Vendor: 1, Type: 1}})
	accepts(t, "the extreme numbers", []api.Rule{{Type: 1}, {Code: 1<<32 - 1, Type: 1}, {Vendor: 1<<32 - 1, Type: 1}, {Code: 1<<32 - 1, Vendor: 1<<32 - 1, Type: 1}})
}

// everywhere checks one rule alone, and as the first, middle and last one of others.
func everywhere(t *testing.T, what string, r api.Rule, want bool) {
	t.Helper()
	for _, n := range []int{1, 2, 3, 64} {
		for _, i := range []int{0, n / 2, n - 1} {
			rules := many(n)
			r.Code = rules[i].Code
			rules[i] = r
			if want {
				accepts(t, what, rules)
			} else {
				refuses(t, what, rules)
			}
			sounds(t, rules)
		}
	}
}

func TestSoundOfTypes(t *testing.T) {
	for kind := -3; kind < 20; kind++ {
		everywhere(t, "a type", rule(1, kind, 0, 1), kind >= 1 && kind <= 11)
	}
	everywhere(t, "Octets", rule(1, api.Octets, 0, 1), true)
	everywhere(t, "Address", rule(1, api.Address, 0, 1), true)
	for _, kind := range []int{math.MinInt, math.MaxInt, 1<<32 + 1, 256 + 1, -1 << 32} {
		everywhere(t, "no type", rule(1, kind, 0, 1), false)
	}
}

func TestSoundOfLeastAndMost(t *testing.T) {
	for _, c := range []struct {
		least, most int
		want        bool
	}{
		{0, 0, true}, {0, 1, true}, {1, 1, true}, {2, 1, false}, {1, 0, false}, {1, 2, true},
		{-1, 0, false}, {-1, 1, false}, {-1, -1, false}, {0, -1, false}, {-2, -1, false},
		{0, 64, true}, {1, 64, true}, {63, 64, true}, {64, 64, true}, {0, 63, true}, {64, 63, false},
		{0, 65, false}, {64, 65, false}, {65, 65, false}, {65, 64, false}, {66, 65, false},
		{math.MinInt, 1, false}, {0, math.MaxInt, false}, {math.MinInt, math.MaxInt, false}, {math.MaxInt, math.MaxInt, false},
		{math.MinInt, math.MinInt, false}, {math.MaxInt, math.MinInt, false}, {0, 1 << 32, false}, {-1 << 32, 0, false},
	} {
		everywhere(t, "Least and Most", api.Rule{Type: api.Text, Must: true, Least: c.least, Most: c.most}, c.want)
	}
	for least := -3; least < 70; least++ {
		for most := -3; most < 70; most++ {
			sounds(t, []api.Rule{rule(1, 1, least, most)})
		}
	}
}

func TestJudgeOfNoRule(t *testing.T) {
	rules := []api.Rule{rule(1, api.Unsigned32, 0, 2), {Code: 2, Vendor: 3, Type: api.Unsigned32, Most: 2}}
	number := "abcd"
	for _, c := range []struct{ code, vendor uint32 }{{3, 0}, {0, 0}, {1, 3}, {1, 1}, {2, 0}, {2, 2}, {3, 2}, {3, 3}, {1 << 31, 0}, {1<<32 - 1, 1<<32 - 1}} {
		for _, data := range []string{"", "a", number, "\xff"} {
			a := api.Avp{Code: c.code, Vendor: c.vendor, Data: []byte(data)}
			fits(t, "no rule, no Must", rules, []api.Avp{a})
			fits(t, "no rule, no Must, often", rules, append(times(100, a), made(1, number)))
			a.Protected = true
			fits(t, "no rule, but Protected", rules, []api.Avp{a})
			a.Must = true
			finds(t, "no rule, and Must", rules, []api.Avp{a}, 5001, a)
			finds(t, "no rule, and Must, behind another one", rules, []api.Avp{made(1, number), made(9, ""), a, a}, 5001, a)
		}
	}
	known := api.Avp{Code: 2, Vendor: 3, Must: true, Data: []byte(number)}
	fits(t, "with a rule and Must", rules, []api.Avp{known})
	fits(t, "with a rule, Must and Protected", rules, []api.Avp{{Code: 1, Must: true, Protected: true, Data: []byte(number)}, known})
}

func TestJudgeWithoutRules(t *testing.T) {
	for _, rules := range [][]api.Rule{nil, {}} {
		for _, list := range [][]api.Avp{nil, {}, {made(1, "a")}, {made(0, "")}, times(1000, made(263, "\xff"))} {
			fits(t, "no rules", rules, list)
		}
		zero := api.Avp{Must: true}
		finds(t, "no rules, and Must", rules, []api.Avp{made(0, ""), zero}, 5001, zero)
	}
}

func TestJudgeOfNothingAsked(t *testing.T) {
	rules := many(64)
	fits(t, "no list", rules, nil)
	fits(t, "an empty list", rules, []api.Avp{})
	fits(t, "others alone", rules, times(200, made(65, "x")))
	var all []api.Avp
	for _, r := range rules {
		all = append(all, times(64, made(r.Code, "x"))...)
	}
	fits(t, "all that may be", rules, all)
	slices.Reverse(all)
	fits(t, "all that may be, the other way round", rules, all)
}

// TestMustOfARuleIsOfWhatIsMissingAlone: whether an AVP has the flags that its rule says isn't asked.
func TestMustOfARuleIsOfWhatIsMissingAlone(t *testing.T) {
	for _, must := range []bool{false, true} {
		rules := []api.Rule{{Code: 1, Type: api.Text, Must: must, Least: 1, Most: 1}}
		for _, a := range []api.Avp{made(1, "a"), {Code: 1, Must: true}, {Code: 1, Protected: true}, {Code: 1, Must: true, Protected: true}} {
			fits(t, "flags", rules, []api.Avp{a})
		}
	}
}

func TestJudgeOfNotAllowed(t *testing.T) {
	rules := []api.Rule{rule(1, api.Unsigned32, 0, 0), rule(2, api.Octets, 0, 1)}
	for _, data := range []string{"abcd", "", "abc"} {
		a := api.Avp{Code: 1, Must: true, Protected: true, Data: []byte(data)}
		finds(t, "a Most of 0", rules, []api.Avp{a}, 5008, a)
		finds(t, "a Most of 0, twice", rules, []api.Avp{made(2, "x"), a, made(1, "other")}, 5008, a)
	}
	fits(t, "a Most of 0, and none", rules, []api.Avp{made(2, "x")})
	fits(t, "a Most of 0, and no list", rules, nil)
	other := api.Avp{Code: 1, Vendor: 1, Data: []byte("x")}
	fits(t, "a Most of 0, and one of another Vendor", rules, []api.Avp{other})
}

func TestJudgeOfTooMany(t *testing.T) {
	for _, most := range []int{1, 2, 3, 63, 64} {
		rules := []api.Rule{rule(1, api.Octets, 0, most), {Code: 1, Vendor: 1, Type: api.Octets, Most: 64}, rule(2, api.Octets, 0, 1)}
		a, more := made(1, "a"), api.Avp{Code: 1, Protected: true, Data: []byte("more")}
		vendor, other := api.Avp{Code: 1, Vendor: 1}, made(2, "b")
		list := times(most, a)
		fits(t, "just Most", rules, list)
		fits(t, "just Most among others", rules, slices.Concat(times(40, vendor), list[1:], []api.Avp{other, a}, times(24, vendor)))
		finds(t, "one more, in the end", rules, append(list, more), 5009, more)
		finds(t, "one more, in the middle", rules, slices.Concat([]api.Avp{other}, list, []api.Avp{vendor, more, vendor, a, vendor}), 5009, more)
		finds(t, "many more", rules, slices.Concat(list, []api.Avp{more}, times(1000, a)), 5009, more)
		var mixed []api.Avp
		for range most {
			mixed = append(mixed, made(7, ""), a, vendor)
		}
		fits(t, "just Most, with others between", rules, mixed)
		finds(t, "one more, with others between", rules, append(mixed, made(8, ""), more), 5009, more)
	}
}

// TestJudgeCountsThoseOfOneRuleAlone: no rule's AVPs are counted for another one.
func TestJudgeCountsThoseOfOneRuleAlone(t *testing.T) {
	rules := []api.Rule{rule(1, api.Octets, 1, 1), {Code: 1, Vendor: 2, Type: api.Octets, Least: 1, Most: 1}, rule(2, api.Octets, 1, 1), {Code: 2, Vendor: 1, Type: api.Octets, Least: 1, Most: 1}}
	list := []api.Avp{made(1, ""), {Code: 1, Vendor: 2}, made(2, ""), {Code: 2, Vendor: 1}}
	fits(t, "one of each", rules, list)
	for i := range list {
		twice := append(slices.Clone(list), list[i])
		finds(t, "one of them twice", rules, twice, 5009, list[i])
		finds(t, "one of them missing", rules, slices.Delete(slices.Clone(list), i, i+1), 5005, list[i])
	}
}

func TestJudgeOfValues(t *testing.T) {
	for _, c := range []struct {
		kind int
		data string
		want int
	}{
		{api.Octets, "", 2001}, {api.Octets, "\xff", 2001},
		{api.Integer32, "abcd", 2001}, {api.Integer32, "abc", 5014}, {api.Integer32, "abcde", 5014}, {api.Integer32, "", 5014},
		{api.Integer64, "abcdefgh", 2001}, {api.Integer64, "abcd", 5014}, {api.Integer64, "abcdefghi", 5014},
		{api.Unsigned32, "abcd", 2001}, {api.Unsigned32, "abc", 5014}, {api.Unsigned32, "abcdefgh", 5014},
		{api.Unsigned64, "abcdefgh", 2001}, {api.Unsigned64, "abcdefg", 5014},
		{api.Float32, "\x7f\xc0\x00\x00", 2001}, {api.Float32, "a", 5014},
		{api.Float64, "abcdefgh", 2001}, {api.Float64, "", 5014},
		{api.Grouped, "", 2001}, {api.Grouped, "\x00\x00\x00\x01\x00\x00\x00\x08", 2001}, {api.Grouped, "abc", 5004}, {api.Grouped, strings.Repeat("\x00", 5000), 5004},
		{api.Text, "", 2001}, {api.Text, "é", 2001}, {api.Text, "\xc3", 5004}, {api.Text, strings.Repeat("a", 5000), 2001},
		{api.Identity, "host", 2001}, {api.Identity, "", 5004}, {api.Identity, "Host", 5004}, {api.Identity, strings.Repeat("a", 33), 5004},
		{api.Address, "\x00\x01abcd", 2001}, {api.Address, "\x00\x02abcd", 5004}, {api.Address, "", 5004},
	} {
		rules := []api.Rule{rule(9, api.Octets, 0, 64), {Code: 1, Vendor: 5, Type: c.kind, Least: 1, Most: 1}}
		a := api.Avp{Code: 1, Vendor: 5, Must: true, Protected: true, Data: []byte(c.data)}
		var wanted []api.Avp
		if c.want != 2001 {
			wanted = []api.Avp{a}
		}
		finds(t, "a value", rules, []api.Avp{a}, c.want, wanted...)
		finds(t, "a value among others", rules, []api.Avp{made(9, "\xff"), made(10, "\xff"), a, made(9, "")}, c.want, wanted...)
	}
}

// TestJudgeOfTwoFaultsInOneAvp: of what is wrong with one AVP, the chapter's order says what is told.
func TestJudgeOfTwoFaultsInOneAvp(t *testing.T) {
	short, none := made(1, "abc"), made(2, "\xff")
	rules := []api.Rule{rule(1, api.Unsigned32, 0, 2), rule(2, api.Text, 0, 2)}
	finds(t, "too short, and not too much", rules, []api.Avp{made(1, "abcd"), short}, 5014, short)
	finds(t, "too short, and too much", rules, []api.Avp{made(1, "abcd"), made(1, "abcd"), short}, 5009, short)
	finds(t, "no value, and not too much", rules, []api.Avp{made(2, "a"), none}, 5004, none)
	finds(t, "no value, and too much", rules, []api.Avp{made(2, "a"), made(2, "b"), none}, 5009, none)
	zero := []api.Rule{rule(1, api.Unsigned32, 0, 0), rule(2, api.Text, 0, 0)}
	finds(t, "too short, and not allowed", zero, []api.Avp{short}, 5008, short)
	finds(t, "no value, and not allowed", zero, []api.Avp{none}, 5008, none)
	unknown := api.Avp{Code: 1, Vendor: 1, Must: true, Data: []byte("abc")}
	finds(t, "unknown, whatever its Data are", zero, []api.Avp{unknown}, 5001, unknown)
	least := []api.Rule{rule(1, api.Unsigned32, 1, 1)}
	finds(t, "too short, and the only one", least, []api.Avp{short}, 5014, short)
}

// TestJudgeOfTwoFaults: of two AVPs at fault the first one is told, and each of them ahead of what is missing.
func TestJudgeOfTwoFaults(t *testing.T) {
	rules := []api.Rule{rule(1, api.Octets, 1, 1), rule(2, api.Octets, 0, 0), rule(3, api.Octets, 0, 1), rule(4, api.Unsigned32, 0, 64), rule(5, api.Text, 0, 64), rule(6, api.Octets, 0, 64)}
	faults := []struct {
		a    api.Avp
		want int
	}{
		{api.Avp{Code: 7, Must: true}, 5001},
		{made(2, "x"), 5008},
		{made(3, "x"), 5009},
		{made(4, "x"), 5014},
		{made(5, "\xff"), 5004},
	}
	for _, before := range [][]api.Avp{{made(3, "")}, {made(1, ""), made(3, "")}, {made(6, ""), made(7, ""), made(3, ""), made(1, "")}} {
		for _, f := range faults {
			for _, g := range faults {
				list := append(slices.Clone(before), f.a, g.a)
				finds(t, "two faults", rules, list, f.want, f.a)
				finds(t, "two faults, apart", rules, slices.Concat(before, []api.Avp{f.a, made(6, ""), made(9, "")}, times(3, made(4, "abcd")), []api.Avp{g.a}), f.want, f.a)
			}
		}
	}
	finds(t, "nothing but what is missing", rules, []api.Avp{made(3, "")}, 5005, made(1, ""))
	finds(t, "the first rule's AVP fine, a later one missing", append(rules, rule(8, api.Octets, 1, 1)), []api.Avp{made(1, ""), made(4, "abcd")}, 5005, made(8, ""))
}

func TestJudgeOfMissing(t *testing.T) {
	rules := []api.Rule{rule(1, api.Octets, 0, 9), rule(5, api.Octets, 3, 5), rule(2, api.Octets, 1, 2), rule(3, api.Octets, 64, 64)}
	one, five, two, three := made(1, ""), made(5, ""), made(2, ""), made(3, "")
	whole := slices.Concat(times(3, five), []api.Avp{two, one}, times(64, three))
	fits(t, "all that is asked", rules, whole)
	finds(t, "nothing", rules, nil, 5005, five)
	finds(t, "others alone", rules, []api.Avp{one, made(99, "")}, 5005, five)
	finds(t, "once less than Least", rules, whole[1:], 5005, five)
	finds(t, "once less than the last one's Least", rules, whole[:len(whole)-1], 5005, three)
	finds(t, "the second one", rules, slices.Concat(whole[:3], whole[4:]), 5005, two)
	finds(t, "two of them", rules, whole[:3], 5005, two)
	finds(t, "the first of two", rules, slices.Concat(whole[:2], whole[4:]), 5005, five)
	finds(t, "others of their codes", rules, append(whole[1:], api.Avp{Code: 5, Vendor: 1}), 5005, five)
	slices.Reverse(whole)
	fits(t, "all that is asked, the other way round", rules, whole)
	slices.Reverse(rules)
	finds(t, "nothing, with the rules the other way round", rules, nil, 5005, three)
}

func TestJudgeOfMissingOfEachNumber(t *testing.T) {
	for least := range 65 {
		for _, n := range []int{0, least - 1, least, least + 1, 64, 65} {
			if n >= 0 {
				judges(t, []api.Rule{rule(1, api.Octets, least, 64)}, times(n, made(1, "x")))
				judges(t, []api.Rule{rule(1, api.Octets, least, least)}, times(n, made(1, "x")))
			}
		}
	}
}

// TestWhatIsMissing: the AVP that is missing has what its rule says, and zero bytes.
func TestWhatIsMissing(t *testing.T) {
	sizes := []int{api.Octets: 0, api.Integer32: 4, api.Integer64: 8, api.Unsigned32: 4, api.Unsigned64: 8, api.Float32: 4, api.Float64: 8, api.Grouped: 0, api.Text: 0, api.Identity: 1, api.Address: 6}
	for kind := api.Octets; kind <= api.Address; kind++ {
		for _, r := range []api.Rule{{Code: 3}, {Code: 3, Must: true}, {Code: 3, Vendor: 4}, {Code: 1<<32 - 1, Vendor: 1<<32 - 1, Must: true}, {Must: true}, {}} {
			r.Type, r.Least, r.Most = kind, 2, 3
			want := api.Avp{Code: r.Code, Vendor: r.Vendor, Must: r.Must, Data: make([]byte, sizes[kind])}
			finds(t, "missing", []api.Rule{r}, nil, 5005, want)
			finds(t, "missing behind another rule", []api.Rule{rule(100, api.Octets, 0, 1), r}, []api.Avp{made(100, "x")}, 5005, want)
		}
	}
}

// TestAllOfAFailedAvp: what failed is told with all that it has.
func TestAllOfAFailedAvp(t *testing.T) {
	rules := []api.Rule{{Code: 1, Vendor: 2, Type: api.Unsigned32, Most: 1}}
	for _, must := range []bool{false, true} {
		for _, protected := range []bool{false, true} {
			for _, data := range []string{"", "\x00\xff", "abcde", strings.Repeat("x", 5000)} {
				a := api.Avp{Code: 1, Vendor: 2, Must: must, Protected: protected, Data: []byte(data)}
				finds(t, "too short or too long", rules, []api.Avp{a}, 5014, a)
				finds(t, "too many", rules, []api.Avp{{Code: 1, Vendor: 2, Data: []byte("1234")}, a}, 5009, a)
			}
		}
	}
}

// TestOfRandom: Sound and Judge do what plainSound and plainJudge do, of rules and lists of few attributes, so that most of them meet.
func TestOfRandom(t *testing.T) {
	r := rand.New(rand.NewSource(17))
	values := []string{"", "a", "abcd", "abcdefgh", "\xff", "\x00\x01abcd", "\x00\x00\x00\x01\x00\x00\x00\x08", "Host"}
	found := make(map[int]int)
	for range 60000 {
		var rules []api.Rule
		for range r.Intn(5) {
			least := r.Intn(12) / 8
			rules = append(rules, api.Rule{Code: uint32(r.Intn(6)), Vendor: uint32(r.Intn(3)), Type: 1 + r.Intn(11), Must: r.Intn(2) == 0, Least: least, Most: least + r.Intn(3)})
		}
		if len(rules) > 0 && r.Intn(30) == 0 {
			rules[0].Type, rules[0].Least, rules[0].Most = r.Intn(14), r.Intn(3)-1, r.Intn(70)-2
		}
		var list []api.Avp
		for range r.Intn(8) {
			list = append(list, api.Avp{Code: uint32(r.Intn(6)), Vendor: uint32(r.Intn(3)), Must: r.Intn(5) == 0, Protected: r.Intn(2) == 0, Data: []byte(values[r.Intn(len(values))])})
		}
		sounds(t, rules)
		judges(t, rules, list)
		code, _, _ := Judge(rules, list)
		found[code]++
	}
	for _, code := range []int{0, 2001, 5001, 5004, 5005, 5008, 5009, 5014} {
		if found[code] < 100 {
			t.Errorf("%d was answered %d times only", code, found[code])
		}
	}
}

// TestOfManyAvps: nothing says how many AVPs a list may have.
func TestOfManyAvps(t *testing.T) {
	rules := many(64)
	list := make([]api.Avp, 300000)
	for i := range list {
		list[i].Code = uint32(i + 65)
	}
	fits(t, "many AVPs without a rule", rules, list)
	last := api.Avp{Code: 1<<32 - 1, Must: true}
	finds(t, "the last one of many", rules, append(list, last), 5001, last)
}

// spare returns the bytes of s with room behind them, which is marked.
func spare(s string) []byte {
	b := []byte(s + strings.Repeat("\xaa", 16))
	return b[:len(s)]
}

// untouched reports whether b holds s, and the room behind it its marks.
func untouched(b []byte, s string) bool {
	return string(b[:len(s)+16]) == s+strings.Repeat("\xaa", 16)
}

func TestArgumentsAreLeftAlone(t *testing.T) {
	mark := api.Rule{Code: 99, Type: 99}
	for _, last := range []string{"", "abc", "abcd", "\xff"} {
		for kind := -1; kind < 13; kind++ {
			first := []api.Rule{{Code: 1, Type: api.Text, Must: true, Least: 1, Most: 1}, {Code: 2, Type: kind, Most: 1}, {Code: 3, Vendor: 4, Type: api.Identity, Least: 1, Most: 1}}
			rules := append(make([]api.Rule, 0, 8), append(slices.Clone(first), mark)...)[:3]
			v, w := spare("a"), spare(last)
			avps := []api.Avp{{Code: 1, Data: v}, {Code: 2, Protected: true, Data: w}}
			list := append(make([]api.Avp, 0, 8), append(slices.Clone(avps), api.Avp{Code: 98})...)[:2]
			Sound(rules)
			Judge(rules, list)
			if !slices.Equal(rules[:4], append(first, mark)) || list[:3][2].Code != 98 || !reflect.DeepEqual(list, avps) {
				t.Errorf("an argument changed: %v, %v", rules[:4], list[:3])
			}
			if !untouched(v, "a") || !untouched(w, last) {
				t.Errorf("Data changed: %x, %x", v[:17], w[:16])
			}
		}
	}
}

// spoil writes over all that a list of AVPs can reach.
func spoil(list []api.Avp) {
	list = list[:cap(list)]
	for i := range list {
		data := list[i].Data[:cap(list[i].Data)]
		for j := range data {
			data[j] = 0xee
		}
		list[i] = api.Avp{Code: 0xee}
	}
}

func TestResultsShareNoMemory(t *testing.T) {
	rules := []api.Rule{rule(1, api.Unsigned32, 0, 1), rule(2, api.Text, 0, 1), rule(3, api.Octets, 0, 0), rule(4, api.Address, 1, 1)}
	good := made(1, "abcd")
	for _, bad := range []api.Avp{made(1, "abc"), made(1, "abcd"), made(2, "a\xff"), made(3, "abc"), {Code: 9, Must: true, Data: []byte("abc")}, made(8, "abc")} {
		list := []api.Avp{good, {Code: bad.Code, Vendor: bad.Vendor, Must: bad.Must, Data: spare(string(bad.Data))}}
		list[0].Data = slices.Clone(good.Data)
		want := bad
		if bad.Code == 8 {
			want = made(4, "\x00\x00\x00\x00\x00\x00")
		}
		code, failed, _ := Judge(rules, list)
		_, again, _ := Judge(rules, list)
		spoil(again)
		if code == api.Success || len(failed) != 1 || !same(failed[0], want) || !same(list[1], bad) || !untouched(list[1].Data, string(bad.Data)) {
			t.Errorf("two answers share memory: %v, %v", failed, list)
		}
		spoil(list)
		if len(failed) != 1 || !same(failed[0], want) {
			t.Errorf("the answer shares memory with the list: %v", failed)
		}
	}
}

func TestTwiceTheSame(t *testing.T) {
	rules := many(64)
	for i := range rules {
		rules[i].Least = 1 + i%3
	}
	for range 20 {
		finds(t, "nothing", rules, nil, 5005, made(1, ""))
		finds(t, "the first ones", rules, []api.Avp{made(1, ""), made(2, ""), made(2, "")}, 5005, made(3, ""))
	}
}

func FuzzAnyArguments(f *testing.F) {
	f.Add([]byte("abcd"), uint32(1), uint32(2), 4, 1, 2, true, uint8(3))
	f.Add([]byte("\xff"), uint32(263), uint32(0), 9, 1, 1, false, uint8(1))
	f.Add([]byte(nil), uint32(0), uint32(0), 11, 0, 0, true, uint8(0))
	f.Add([]byte("x"), uint32(1<<31), uint32(1<<32-1), 12, -1, 65, false, uint8(70))
	f.Fuzz(func(t *testing.T, data []byte, code, vendor uint32, kind, least, most int, must bool, n uint8) {
		was := string(data)
		rules := []api.Rule{{Code: code, Vendor: vendor, Type: kind, Must: must, Least: least, Most: most}, rule(1, api.Text, 0, 1), {Code: 1, Vendor: vendor, Type: 1, Most: 64}}
		a := api.Avp{Code: code, Vendor: vendor, Must: must, Protected: !must, Data: data}
		b := api.Avp{Code: vendor, Vendor: code, Must: most%2 == 0, Data: data}
		for i := range len(rules) + 1 {
			sounds(t, rules[:i])
			judges(t, rules[:i], nil)
			judges(t, rules[:i], times(int(n), a))
			judges(t, rules[:i], append(times(int(n), a), b, made(1, "a")))
		}
		if string(data) != was {
			t.Fatalf("the argument changed")
		}
	})
}
