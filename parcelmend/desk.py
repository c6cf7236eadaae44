"""A desk: rows that are told, one at a time, and their answers."""

from parcelmend.deskwords import lines_shown, row_read
from parcelmend.disks import Disk
from parcelmend.errors import NoFile
from parcelmend.houses import House
from parcelmend.parcels import Shelf
from parcelmend.parceltexts import read_shelf
from parcelmend.standtexts import stand_shown
from parcelmend.wishes import Best
from parcelmend.words import make_shown


class Desk:
    def __init__(self):
        self.house = House(Shelf([]), Disk())

    def say(self, row):
        # The row is read whole ahead of all else, so that NoRow goes ahead of any other refusal.
        told = row_read(row)
        if told[0] == "shelf":
            self.house = House(read_shelf(told[1]), Disk())
            return "ok"
        if told[0] in ("edit", "forget", "choose", "back"):
            return deed_answered(self.house, told)
        if told[0] in ("allow", "spoil", "lose"):
            return write_answered(self.house.disk, told)
        if told[0] in ("files", "show"):
            return files_answered(self.house.disk.files_now(), told)
        return house_answered(self.house, told)


def deed_answered(house, told):
    if told[0] == "edit":
        house.edit(told[1], told[2])
    elif told[0] == "forget":
        house.forget(told[1])
    elif told[0] == "choose":
        house.choose(told[1], told[2])
    else:
        house.back(told[1])
    return "ok"


def write_answered(disk, told):
    if told[0] == "allow":
        disk.allow(told[1])
    elif told[0] == "spoil":
        disk.put(told[1], told[2])
    else:
        disk.erase(told[1])
    return "ok"


def files_answered(files, told):
    if told[0] == "files":
        return " ".join(sorted(files)) if len(files) > 0 else "none"
    if told[1] not in files:
        raise NoFile("no such file is on the disk")
    return lines_shown(files[told[1]])


def house_answered(house, told):
    if told[0] == "wish":
        return outcome_shown(house.wish(told[1]))
    if told[0] == "up":
        return "came" if house.come_up() else "quiet"
    if told[0] == "look":
        return looks_shown(house.look())
    if told[0] == "mend":
        return looks_shown(house.mend())
    return stand_shown(house.stand())


def outcome_shown(outcome):
    if not isinstance(outcome, Best):
        return "unmet"
    words = ["best"]
    for name in sorted(outcome.chosen):
        words.extend([name, make_shown(outcome.chosen[name])])
    return " ".join(words)


def looks_shown(looks):
    if len(looks) == 0:
        return "none"
    return "; ".join([f"{path} {word}" for path, word in looks])
