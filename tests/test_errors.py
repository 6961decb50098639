"""The errors of the interface."""
import pickle
import unittest

from housekept import errors

MADE = """BadAir BadAlarm BadArea BadAreas BadBench BadBuilding BadButtons BadCalendar BadChoice BadChoices BadClock
BadComfort BadCompany BadController BadCount BadCourse BadCrowd BadCrowds BadDate BadDegrees BadDoor BadDoors BadEyes
BadFalls BadFew BadFire BadFitting BadFloor BadFloors BadGreatest BadHinder BadHindrance BadHour BadHousehold BadJourney
BadKind BadKnowledge BadLabel BadLetters BadLines BadLoads BadLog BadLooks BadLot BadMachine BadMark BadMarks BadMode
BadMoment BadMost BadMove BadName BadNames BadNeeds BadNet BadNumber BadNumbers BadOrder BadOthers BadPanel BadPaper
BadParting BadPassage BadPatience BadPerson BadPlace BadPlacement BadPlaces BadPlan BadPointers BadPromise BadQuestion
BadRight BadRound BadRow BadRule BadSetting BadSide BadSignal BadSleepers BadStanding BadState BadStay BadTable BadThing
BadTicks BadTo BadTold BadTree BadWatch BadWeb BadWheel BadWhen BadWords BadWorld BadYear NoWay NotFree NotThere
NothingDone SameArea Unfit UnlikeBuildings UnlikeSignals UnlikeTexts""".split()
VALUED = {"BadLabels": ["index"], "BadMoves": ["at"], "BadText": ["place"], "BadTick": ["at"], "BadWeather": ["at"],
          "BadWord": ["line", "word"], "NoCourse": ["index"], "NoPlace": ["rule"], "NotKept": ["name"],
          "TooLong": ["most"], "TooMany": ["most"]}


class Errors(unittest.TestCase):
    def test_all_are_there_and_stand_directly_under_kept_error(self):
        self.assertEqual(errors.KeptError.__bases__, (ValueError,))
        for name in MADE + list(VALUED):
            self.assertEqual(getattr(errors, name).__bases__, (errors.KeptError,), name)
        found = {name for name, thing in vars(errors).items() if isinstance(thing, type)}
        self.assertEqual(found, set(MADE) | set(VALUED) | {"KeptError"})

    def test_made_with_a_message(self):
        for name in MADE + ["KeptError"]:
            self.assertEqual(str(getattr(errors, name)("why")), "why")

    def test_made_with_values(self):
        for name, fields in VALUED.items():
            kind = getattr(errors, name)
            for values in ([4000] * len(fields), [None] * len(fields), [(5, {"a": []})] * len(fields)):
                by_place = kind(*values)
                by_name = kind(**dict(zip(fields, values)))
                for field, value in zip(fields, values):
                    self.assertEqual(getattr(by_place, field), value)
                    self.assertEqual(getattr(by_name, field), value)
                again = pickle.loads(pickle.dumps(by_place))
                self.assertEqual([getattr(again, field) for field in fields], values)

    def test_order_of_the_values(self):
        wrong = errors.BadWord(3, 7)
        self.assertEqual((wrong.line, wrong.word), (3, 7))


if __name__ == "__main__":
    unittest.main()
