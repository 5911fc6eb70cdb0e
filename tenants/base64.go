package tenants

const sixBits = "ABCDEFGHIJKLMNOPQRSTUVWXYZabcdefghijklmnopqrstuvwxyz0123456789+/"

func base64(text string) string {
	var out []byte
	for text != "" {
		var three [3]byte
		taken := copy(three[:], text)
		four := fourOf(three)
		for i := taken + 1; i < len(four); i++ {
			four[i] = '='
		}
		out = append(out, four[:]...)
		text = text[taken:]
	}
	return string(out)
}

func fourOf(three [3]byte) [4]byte {
	bits := uint32(three[0])<<16 | uint32(three[1])<<8 | uint32(three[2])
	var four [4]byte
	for i := range four {
		four[i] = sixBits[bits>>(18-6*i)&63]
	}
	return four
}
