package rules

import (
	"strings"

	"turnpike/api"
	"turnpike/words"
)

const everything = "*"

func fitsAll[T any](T) bool { return true }

func readVerdict(field string) bool {
	words.Must(field == "allow" || field == "deny", "allow or deny")
	return field == "allow"
}

func readTenant(field string) func(string) bool {
	if field == everything {
		return fitsAll[string]
	}
	// A copy, as the field itself would keep the whole text of rules alive.
	own := strings.Clone(words.Tenant(field))
	return func(tenant string) bool { return tenant == own }
}

func readHost(field string) func(words.Host) bool {
	if field == everything {
		return fitsAll[words.Host]
	}
	if address, length, found := strings.Cut(field, "/"); found {
		return readNet(address, length)
	}
	if domain, found := strings.CutPrefix(field, "."); found {
		return readDomain(domain)
	}
	own := strings.Clone(words.Name(field))
	return func(host words.Host) bool { return host.Name == own }
}

func readDomain(field string) func(words.Host) bool {
	own := strings.Clone(words.Name(field))
	return func(host words.Host) bool {
		return host.Name == own || strings.HasSuffix(host.Name, "."+own)
	}
}

func readNet(address string, length string) func(words.Host) bool {
	own := words.ReadAddress(address)
	n := words.Number(length, words.Bits)
	words.Must(own.First(n) == own, "an address with 0 behind its first bits")
	return func(host words.Host) bool {
		return host.IsAddress() && host.Address.First(n) == own
	}
}

func readPort(field string) func(int) bool {
	if field == everything {
		return fitsAll[int]
	}
	if !strings.Contains(field, "-") {
		own := words.Port(field)
		return func(port int) bool { return port == own }
	}
	first, last := readSpan(field, api.MaxPort)
	words.Must(first <= last, "ports of which the first is not above the second")
	return func(port int) bool { return first <= port && port <= last }
}

func readMinute(field string) func(int) bool {
	if field == everything {
		return fitsAll[int]
	}
	first, last := readSpan(field, api.Minutes-1)
	if first > last {
		return func(minute int) bool { return first <= minute || minute <= last }
	}
	return func(minute int) bool { return first <= minute && minute <= last }
}

func readSpan(field string, highest int) (first int, last int) {
	from, to, found := strings.Cut(field, "-")
	words.Must(found, "two numbers with - between")
	return words.Number(from, highest), words.Number(to, highest)
}
