package conf

import (
	"slices"
	"strconv"
	"strings"

	"foliot/api"
)

func Print(c api.Config) (string, api.Errno) {
	if err := Check(c); err != api.OK {
		return "", err
	}
	lines := slices.Concat(each(c.Keys, keyLine), each(c.Assocs, assocLine), roleLines(c),
		trustLines(c), each(c.Rules, ruleLine), fileLines(c), numberLines(c))
	if len(lines) > api.MaxLines {
		return "", api.ErrMany
	}
	text := strings.Join(lines, "\n") + "\n"
	if len(text) > api.MaxConf {
		return "", api.ErrLong
	}
	return text, api.OK
}

func each[T any](list []T, text func(T) string) []string {
	var lines []string
	for _, one := range list {
		lines = append(lines, text(one))
	}
	return lines
}

// say puts words behind one another, with a blank between.
func say(words ...string) string { return strings.Join(words, " ") }

func sayNumber(word string, n int) string { return say(word, strconv.Itoa(n)) }

func keyLine(k api.Key) string {
	kind := shaWord
	if k.Kind == api.KeyCMAC {
		kind = cmacWord
	}
	var secret []byte
	for _, b := range k.Bytes {
		secret = append(secret, hexDigits[b>>4], hexDigits[b&15])
	}
	return say(sayNumber("key", k.ID), kind, string(secret))
}

func assocLine(a api.Assoc) string {
	if a.Kind == api.KindClock {
		return clockLine(a)
	}
	words := []string{kindWord(a.Kind), PrintAddr(a.Addr)}
	if a.Key != 0 {
		words = append(words, sayNumber("key", a.Key))
	}
	words = append(words, sayNumber("minpoll", a.MinPoll), sayNumber("maxpoll", a.MaxPoll))
	if a.Burst {
		words = append(words, "burst")
	}
	if a.Iburst {
		words = append(words, "iburst")
	}
	if a.Prefer {
		words = append(words, "prefer")
	}
	if isCalled(a.Kind) {
		words = append(words, sayNumber("ttl", a.TTL))
	}
	return say(words...)
}

func clockLine(a api.Assoc) string {
	source := nmeaWord
	if a.Pulse {
		source = ppsWord
	}
	words := []string{"refclock", sayNumber(source, int(a.Addr))}
	if a.Prefer {
		words = append(words, "prefer")
	}
	words = append(words, sayNumber("stratum", a.Stratum), sayNumber("fudge", countThousandths(a.Fudge)))
	return say(words...)
}

func roleLines(c api.Config) []string {
	var lines []string
	if c.Listen {
		lines = append(lines, "broadcastclient")
	}
	if c.Manycast {
		lines = append(lines, "manycastserver")
	}
	return lines
}

func trustLines(c api.Config) []string {
	var lines []string
	if len(c.Trusted) > 0 {
		lines = append(lines, say("trustedkey", say(each(c.Trusted, strconv.Itoa)...)))
	}
	if c.Control != 0 {
		lines = append(lines, sayNumber("controlkey", c.Control))
	}
	return lines
}

func ruleLine(r api.Rule) string {
	words := []string{"restrict", PrintAddr(r.Addr) + "/" + strconv.Itoa(r.Bits)}
	for i, word := range flagWords() {
		if r.Flags>>i&1 == 1 {
			words = append(words, word)
		}
	}
	return say(words...)
}

func fileLines(c api.Config) []string {
	var lines []string
	if c.Drift != "" {
		lines = append(lines, say("driftfile", c.Drift))
	}
	if len(c.Stats) > 0 {
		lines = append(lines, say("statistics", say(c.Stats...)))
	}
	return lines
}

func numberLines(c api.Config) []string {
	return []string{
		sayNumber("orphan", c.Orphan),
		sayNumber("step", countThousandths(c.Step)),
		sayNumber("panic", countSeconds(c.Panic)),
		sayNumber("stepout", c.Stepout),
		sayNumber("average", c.Average),
		sayNumber("minimum", c.Minimum),
	}
}
